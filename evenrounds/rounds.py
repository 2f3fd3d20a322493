"""Rounds: the pairs of times and seatings, or part-seatings, that make a table."""

from evenrounds.errors import Uneven
from evenrounds.seatings import matched
from evenrounds.tables import lay, odd_line, sums


def even_pairs(table, total):
    rest = [list(row) for row in table]
    left = total
    pairs = []
    while left > 0:
        # What is left stays level, so there is always a seating.
        places = matched(rest)[1]
        # Laid as often as it can be, a seating brings a number to nought: it can't come
        # again, and the last one brings as many numbers to nought as there are rows.
        times = min([rest[row][column] for row, column in enumerate(places)])
        lay(rest, (-times, places))
        left -= times
        pairs.append((times, places))
    return pairs


def rounds(table):
    if odd_line(table) is not None:
        raise Uneven("all sums of a table of rounds are alike")
    return even_pairs(table, sum(table[0]))


def lone(many, k, number):
    return [number if other == k else 0 for other in range(many)]


def leveled(table, of_rows, of_columns, greatest):
    many = len(table)
    # Twice as wide and as high: the table, and what each line lacks of the greatest sum
    # beside it and below it; the table turned over in the last corner fills those lines up.
    upper = [table[k] + lone(many, k, greatest - of_rows[k]) for k in range(many)]
    lower = [lone(many, k, greatest - of_columns[k]) + [row[k] for row in table] for k in range(many)]
    return upper + lower


def part_of(many, places):
    return [column if column < many else None for column in places[:many]]


def fewest(table):
    both = sums(table)
    greatest = max(both[0] + both[1])
    many = len(table)
    # A line with the greatest sum lacks nothing, so each part-seating has a column there.
    # The wide table has at most 144 numbers above nought, so the pairs are fewer than 200.
    pairs = even_pairs(leveled(table, both[0], both[1], greatest), greatest)
    return [(pair[0], part_of(many, pair[1])) for pair in pairs]
