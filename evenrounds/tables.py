"""Tables: what is one, their sums, their first odd line, and the table that pairs make.

The words of a refusal leave the number out that is to blame: Python won't write a
number of some thousand figures, and would then fail with an error of its own.
"""

from evenrounds.errors import BadSeating, BadTable

MOST_ROWS = 8
MOST_NUMBER = 1000000


def check_many(many):
    if many < 1 or many > MOST_ROWS:
        raise BadTable(f"a table has from 1 to {MOST_ROWS} rows")


def check_row(row, many):
    if len(row) != many:
        raise BadTable("a row has as many numbers as there are rows")
    for number in row:
        if number < 0 or number > MOST_NUMBER:
            raise BadTable(f"a number of a table is from 0 to {MOST_NUMBER}")


def check_table(table):
    check_many(len(table))
    for row in table:
        check_row(row, len(table))


def column_sum(table, column):
    return sum([row[column] for row in table])


def sums(table):
    check_table(table)
    of_rows = [sum(row) for row in table]
    of_columns = [column_sum(table, column) for column in range(len(table))]
    return (of_rows, of_columns)


def first_other(totals, wanted):
    for k, total in enumerate(totals):
        if total != wanted:
            return k
    return None


def odd_line(table):
    both = sums(table)
    # Columns too are held against row 0, not against column 0.
    wanted = both[0][0]
    row = first_other(both[0], wanted)
    if row is not None:
        return ("row", row)
    column = first_other(both[1], wanted)
    if column is not None:
        return ("column", column)
    return None


def check_places(many, places):
    if len(places) != many:
        raise BadSeating("a part-seating has a place for each row")
    taken = {}
    for column in places:
        if column is None:
            continue
        if column < 0 or column >= many:
            raise BadSeating("a column is from 0 to one less than the rows")
        if column in taken:
            raise BadSeating("a column is in a part-seating once at most")
        taken[column] = True


def check_pair(many, pair):
    if pair[0] < 1:
        raise BadSeating("a part-seating is laid once at least")
    check_places(many, pair[1])


def lay(table, pair):
    for row, column in enumerate(pair[1]):
        if column is not None:
            table[row][column] += pair[0]


def laid(many, pairs):
    check_many(many)
    table = [[0] * many for row in range(many)]
    for pair in pairs:
        check_pair(many, pair)
        lay(table, pair)
    return table
