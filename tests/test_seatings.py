import unittest

from evenrounds.errors import BadTable
from evenrounds.seatings import seating
from samples import TOP, all_of, check_refusal, drawn_levels, drawn_tables, filled, is_level, no_tables


class Seating(unittest.TestCase):
    def check_seating(self, table, places):
        self.assertIs(type(places), list)
        self.assertEqual([type(place) for place in places], [int] * len(table))
        self.assertEqual(sorted(places), list(range(len(table))))
        for row, column in enumerate(places):
            self.assertGreater(table[row][column], 0)

    def check_short(self, table, rows, columns):
        many = len(table)
        for told in (rows, columns):
            self.assertIs(type(told), list)
            self.assertEqual([type(k) for k in told], [int] * len(told))
            self.assertEqual(told, [k for k in range(many) if k in told], "not rising, twice or out of bounds")
        above = [column for column in range(many) if any(table[row][column] > 0 for row in rows)]
        self.assertEqual(columns, above)
        self.assertLess(len(columns), len(rows))

    def check(self, table):
        told = seating(table)
        self.assertIs(type(told), tuple)
        if told[0] == "seating":
            self.assertEqual(len(told), 2)
            self.check_seating(table, told[1])
        else:
            self.assertEqual(told[0], "short")
            self.assertEqual(len(told), 3)
            self.check_short(table, told[1], told[2])
        return told[0]

    def test_drawn_tables(self):
        for label, table in drawn_tables():
            with self.subTest(label, table=table):
                self.check(table)

    def test_both_answers_come_at_every_size(self):
        found = {(len(table), seating(table)[0]) for label, table in drawn_tables()}
        self.assertEqual(found, {(many, word) for many in range(1, 9) for word in ("seating", "short")})

    def test_every_small_table(self):
        for many, numbers in ((1, range(4)), (2, range(4)), (3, range(2)), (4, range(2))):
            for table in all_of(many, numbers):
                self.check(table)

    def test_a_level_table_above_nought_has_a_seating(self):
        for label, table in drawn_levels():
            self.assertTrue(is_level(table), label)
            with self.subTest(label, table=table):
                self.assertEqual(self.check(table), "seating" if sum(table[0]) > 0 else "short")

    def test_only_one_can_be(self):
        for many in range(2, 9):
            for column in range(many):
                with self.subTest(many=many, column=column):
                    # Without row 0 there is a seating; two rows with one column take it away.
                    table = [[int(k != column) for k in range(many)] for row in range(many)]
                    table[0] = [TOP * int(k == column) for k in range(many)]
                    self.assertEqual(seating(table)[0], "seating")
                    table[many - 1] = list(table[0])
                    self.assertEqual(seating(table), ("short", [0, many - 1], [column]))

    def test_written_out(self):
        self.assertEqual(seating([[1]]), ("seating", [0]))
        self.assertEqual(seating([[TOP]]), ("seating", [0]))
        self.assertEqual(seating([[0]]), ("short", [0], []))
        self.assertEqual(seating([[0, 1], [1, 0]]), ("seating", [1, 0]))
        self.assertEqual(seating([[1, 0], [1, 0]]), ("short", [0, 1], [0]))
        self.assertEqual(seating([[0, 5], [0, TOP]]), ("short", [0, 1], [1]))
        self.assertEqual(seating([[1, 1, 1], [0, 0, 0], [1, 1, 1]]), ("short", [1], []))

    def test_a_row_gives_way_over_many_steps(self):
        for many in range(1, 9):
            with self.subTest(many=many):
                # Row k has columns k and k + 1, the last row column 0 alone: all others have to give way.
                table = [[int(column in (row, row + 1)) for column in range(many)] for row in range(many)]
                table[many - 1] = [int(column == 0) for column in range(many)]
                self.assertEqual(seating(table), ("seating", [*range(1, many), 0]))

    def test_noughts_alone_are_short(self):
        for many in range(1, 9):
            self.assertEqual(self.check(filled(many, 0)), "short")

    def test_no_table(self):
        for label, bad in no_tables():
            with self.subTest(label):
                check_refusal(self, BadTable, seating, bad)


if __name__ == "__main__":
    unittest.main()
