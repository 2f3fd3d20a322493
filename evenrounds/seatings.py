"""Seatings: a column above nought for each row, or rows that have too few such columns."""

from evenrounds.tables import check_table


def find_column(table, row, holders, tried):
    for column, number in enumerate(table[row]):
        if number < 1 or column in tried:
            continue
        tried[column] = True
        # A column that is held is free once its holder has found another.
        if column not in holders or find_column(table, holders[column], holders, tried):
            holders[column] = row
            return True
    return False


def short_of(row, holders, tried):
    # The search reached the holders of all tried columns and no column beyond these.
    rows = [row] + [holders[column] for column in tried]
    return ("short", sorted(rows), sorted(tried))


def places_of(holders):
    places = [None] * len(holders)
    for column, row in holders.items():
        places[row] = column
    return places


def matched(table):
    holders = {}
    for row in range(len(table)):
        tried = {}
        if not find_column(table, row, holders, tried):
            return short_of(row, holders, tried)
    return ("seating", places_of(holders))


def seating(table):
    check_table(table)
    return matched(table)
