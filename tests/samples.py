"""Tables for the tests, written out or drawn from a fixed seed, and how a refusal is checked."""
import itertools
import random

from evenrounds.errors import BadSeating, BadTable, NoText, RoundError, Uneven

KINDS = [BadTable, BadSeating, Uneven, NoText]
TOP = 10 ** 6


def filled(many, number):
    return [[number] * many for _ in range(many)]


def mixed(many):
    return [[(7 * row + 3 * column * column) % 11 for column in range(many)] for row in range(many)]


def rotated(many, step):
    return [(row + step) % many for row in range(many)]


def level(many):
    # Each rotation adds the same to every row and every column.
    return [[(column - row) % many for column in range(many)] for row in range(many)]


def no_tables():
    yield "no rows", []
    for many in (9, 10, 20):
        yield f"{many} rows", filled(many, 1)
    yield "nine rows of one", [[1] for _ in range(9)]
    yield "one row, empty", [[]]
    yield "one row of two", [[1, 1]]
    yield "two rows of three", [[1, 1, 1], [1, 1, 1]]
    yield "three rows of two", [[1, 1], [1, 1], [1, 1]]
    for many in range(2, 9):
        for row in range(many):
            longer = filled(many, 1)
            longer[row].append(1)
            yield f"{many} rows, row {row} longer", longer
            shorter = filled(many, 1)
            shorter[row].pop()
            yield f"{many} rows, row {row} shorter", shorter
            empty = filled(many, 1)
            empty[row] = []
            yield f"{many} rows, row {row} empty", empty
    for many in range(1, 9):
        for row in range(many):
            for column in range(many):
                for number in (-1, TOP + 1):
                    bad = filled(many, 1)
                    bad[row][column] = number
                    yield f"{many} rows, {number} at {row}, {column}", bad
    for label, number in (("-2", -2), ("-10 ** 9", -10 ** 9), ("10 ** 6 + 2", TOP + 2), ("10 ** 12", 10 ** 12),
                          ("10 ** 5000", 10 ** 5000), ("-10 ** 5000", -10 ** 5000)):
        yield f"{label} alone", [[number]]
        yield f"{label} in the last row", [[1, 1], [1, number]]
    yield "bad numbers that even out", [[-1, 2], [2, -1]]
    yield "level but for a bound", filled(3, TOP + 1)


def small(draw, many):
    return [[draw.randint(0, 3) for _ in range(many)] for _ in range(many)]


def noughts_and_ones(draw, many):
    # From few ones to many: both answers of seating come, and both come late.
    chance = draw.random()
    return [[int(draw.random() < chance) for _ in range(many)] for _ in range(many)]


def any_numbers(draw, many):
    return [[draw.randint(0, TOP) for _ in range(many)] for _ in range(many)]


def mostly_noughts(draw, many):
    return [[draw.choice([0, 0, 0, 0, 0, 1, TOP - 1, TOP]) for _ in range(many)] for _ in range(many)]


def from_seatings(draw, many):
    table = filled(many, 0)
    count = draw.randint(1, 3 * many)
    most = draw.choice([1, 3, TOP // count])
    for _ in range(count):
        times = draw.randint(1, most)
        for row, column in enumerate(draw.sample(range(many), many)):
            table[row][column] += times
    return table


def drawn(kinds, each):
    for kind in kinds:
        for many in range(1, 9):
            draw = random.Random(f"{kind.__name__} {many}")
            for k in range(each):
                yield f"{kind.__name__}, {many} rows, draw {k}", kind(draw, many)


def drawn_levels():
    for many in range(1, 9):
        yield f"noughts alone, {many} rows", filled(many, 0)
        yield f"the bound alone, {many} rows", filled(many, TOP)
        yield f"rotations, {many} rows", level(many)
    yield from drawn([from_seatings], 60)


def drawn_tables():
    yield from drawn_levels()
    yield from drawn([small, noughts_and_ones, any_numbers, mostly_noughts], 60)


def all_of(many, numbers):
    for line in itertools.product(numbers, repeat=many * many):
        yield [list(line[many * row:many * row + many]) for row in range(many)]


def is_level(table):
    totals = [sum(row) for row in table] + [sum(column) for column in zip(*table)]
    return len(set(totals)) == 1


def lists_in(value):
    found = [value] if isinstance(value, list) else []
    if isinstance(value, (list, tuple)):
        for part in value:
            found += lists_in(part)
    return found


def check_refusal(case, kind, call, *handed):
    with case.assertRaises(RoundError) as caught:
        call(*handed)
    error = caught.exception
    case.assertIsInstance(error, ValueError)
    case.assertEqual([other.__name__ for other in KINDS if isinstance(error, other)], [kind.__name__])
