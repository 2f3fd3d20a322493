"""What the document promises over the whole program, held against each function."""
import copy
import time
import unittest

from evenrounds.errors import BadSeating, BadTable, NoText, RoundError, Uneven
from evenrounds.notes import read, shown
from evenrounds.rounds import fewest, rounds
from evenrounds.seatings import seating
from evenrounds.tables import laid, odd_line, sums
from samples import (TOP, any_numbers, check_refusal, drawn, drawn_levels, drawn_tables, filled, from_seatings, is_level,
                     level, lists_in, mixed, mostly_noughts, no_tables, noughts_and_ones, rotated, small)

OF_TABLES = [sums, odd_line, seating, rounds, fewest, shown]


def some_tables():
    for many in range(1, 9):
        yield from (filled(many, 0), filled(many, TOP), level(many), mixed(many))
        yield [[int(row == many - 1 - column) for column in range(many)] for row in range(many)]
        yield [[int(column == 0) for column in range(many)] for row in range(many)]
    for label, table in drawn([small, noughts_and_ones, any_numbers, mostly_noughts, from_seatings], 3):
        yield table


def calls():
    """Each function with something handed in that it answers."""
    for table in some_tables():
        for ask in OF_TABLES:
            if ask != rounds or is_level(table):
                yield ask, (copy.deepcopy(table),)
        yield read, ("".join(" ".join(map(str, row)) + "\n" for row in table),)
        many = len(table)
        yield laid, (many, [(2, rotated(many, 1)), (3, [None] * many), (1, rotated(many, 0))])


def spoil(value):
    for part in lists_in(value):
        part.reverse()
        part.append(77)
        part[0] = "spoiled"


class Refusals(unittest.TestCase):
    def test_no_table(self):
        for label, bad in no_tables():
            for ask in OF_TABLES:
                with self.subTest(label, ask=ask.__name__):
                    before = copy.deepcopy(bad)
                    check_refusal(self, BadTable, ask, bad)
                    self.assertEqual(bad, before)

    def test_uneven_by_rounds_alone_and_only_where_it_is(self):
        for label, table in drawn_tables():
            for ask in OF_TABLES:
                with self.subTest(label, ask=ask.__name__):
                    if ask == rounds and not is_level(table):
                        before = copy.deepcopy(table)
                        check_refusal(self, Uneven, ask, table)
                        self.assertEqual(table, before)
                    else:
                        ask(table)

    def test_the_others(self):
        check_refusal(self, NoText, read, "1 2\n")
        check_refusal(self, BadTable, laid, 9, [])
        check_refusal(self, BadSeating, laid, 2, [(1, [0, 0])])

    def test_a_refusal_leaves_nothing_behind(self):
        for call, handed in ((rounds, [[1, 0], [1, 0]]), (fewest, [[-1]]), (seating, []), (read, "x"), (shown, [[1, 2]])):
            with self.assertRaises(RoundError):
                call(handed)
        self.assertEqual(rounds([[3]]), [(3, [0])])
        self.assertEqual(fewest([[3]]), [(3, [0])])
        self.assertEqual(seating([[3]]), ("seating", [0]))
        self.assertEqual(shown(read("3\n")), "3\n")


class Own(unittest.TestCase):
    def test_what_is_handed_in_stays(self):
        for ask, handed in calls():
            with self.subTest(ask=ask.__name__, handed=handed):
                before = copy.deepcopy(handed)
                ask(*handed)
                self.assertEqual(handed, before)

    def test_what_is_handed_in_is_not_kept(self):
        for ask, handed in calls():
            with self.subTest(ask=ask.__name__, handed=handed):
                before = copy.deepcopy(handed)
                told = ask(*handed)
                wanted = copy.deepcopy(told)
                spoil(handed)
                self.assertEqual(told, wanted)
                self.assertEqual(ask(*before), wanted)

    def test_no_two_lists_are_one(self):
        for ask, handed in calls():
            with self.subTest(ask=ask.__name__, handed=handed):
                told = ask(*handed)
                again = ask(*handed)
                found = lists_in(told) + lists_in(again) + lists_in(handed)
                self.assertEqual(len({id(part) for part in found}), len(found))

    def test_what_is_done_to_a_told_list_changes_nothing(self):
        for ask, handed in calls():
            with self.subTest(ask=ask.__name__, handed=handed):
                before = copy.deepcopy(handed)
                told = ask(*handed)
                wanted = copy.deepcopy(told)
                spoil(told)
                self.assertEqual(handed, before)
                self.assertEqual(ask(*handed), wanted)


class Speed(unittest.TestCase):
    def check(self, ask, handed):
        start = time.perf_counter()
        try:
            ask(handed)
        except RoundError:
            pass
        self.assertLess(time.perf_counter() - start, 1)

    def test_tables_of_eight_rows(self):
        tables = [table for label, table in drawn_tables() if len(table) == 8]
        tables += [table for label, table in drawn_levels() if len(table) == 8]
        tables += [[[TOP - (row * 8 + column) ** 3 for column in range(8)] for row in range(8)],
                   [[2 ** ((row * column + row) % 20) for column in range(8)] for row in range(8)],
                   [[TOP * int(column <= row) for column in range(8)] for row in range(8)]]
        for table in tables:
            for ask in OF_TABLES:
                with self.subTest(ask=ask.__name__, table=table):
                    self.check(ask, table)

    def test_texts(self):
        for text in [shown(filled(8, TOP))] + [sign * 800 for sign in "01 \n\t~"] + ["1 " * 400, "1\n" * 400]:
            self.check(read, text)

    def test_pairs(self):
        self.check(lambda pairs: laid(8, pairs), [(TOP, rotated(8, k)) for k in range(200)])


if __name__ == "__main__":
    unittest.main()
