import unittest

from evenrounds.errors import BadTable, Uneven
from evenrounds.rounds import fewest, rounds
from samples import TOP, all_of, check_refusal, drawn_levels, drawn_tables, filled, is_level, level, no_tables


def all_sums(table):
    return [sum(row) for row in table] + [sum(column) for column in zip(*table)]


class Pairs(unittest.TestCase):
    def check_places(self, many, places):
        self.assertIs(type(places), list)
        self.assertEqual(len(places), many)
        columns = [column for column in places if column is not None]
        self.assertEqual([type(column) for column in columns], [int] * len(columns))
        self.assertEqual(len(set(columns)), len(columns), "a column twice")
        for column in columns:
            self.assertIn(column, range(many))

    def check_pairs(self, table, pairs, total):
        self.assertIs(type(pairs), list)
        made = filled(len(table), 0)
        for pair in pairs:
            self.assertIs(type(pair), tuple)
            self.assertEqual(len(pair), 2)
            times, places = pair
            self.assertIs(type(times), int)
            self.assertGreaterEqual(times, 1)
            self.check_places(len(table), places)
            for row, column in enumerate(places):
                if column is not None:
                    made[row][column] += times
        self.assertEqual(made, table)
        self.assertEqual(sum(pair[0] for pair in pairs), total)


class Rounds(Pairs):
    def check(self, table):
        many = len(table)
        pairs = rounds(table)
        self.check_pairs(table, pairs, sum(table[0]))
        for times, places in pairs:
            self.assertNotIn(None, places)
        self.assertEqual(len({tuple(places) for times, places in pairs}), len(pairs), "a seating twice")
        self.assertLessEqual(len(pairs), many * many - many + 1)

    def test_drawn_tables(self):
        for label, table in drawn_tables():
            with self.subTest(label, table=table):
                if is_level(table):
                    self.check(table)
                else:
                    check_refusal(self, Uneven, rounds, table)

    def test_every_small_table(self):
        for many, numbers in ((1, range(4)), (2, range(4)), (3, range(3))):
            for table in all_of(many, numbers):
                if is_level(table):
                    self.check(table)
                else:
                    check_refusal(self, Uneven, rounds, table)

    def test_noughts_alone_have_none(self):
        for many in range(1, 9):
            self.assertEqual(rounds(filled(many, 0)), [])

    def test_one_seating(self):
        for many in range(1, 9):
            for times in (1, 2, TOP):
                places = [(row + 1) % many for row in range(many)]
                table = [[times * int(places[row] == column) for column in range(many)] for row in range(many)]
                self.assertEqual(rounds(table), [(times, places)])

    def test_written_out(self):
        self.assertEqual(rounds([[5]]), [(5, [0])])
        self.assertEqual(sorted(rounds([[1, 2], [2, 1]])), [(1, [0, 1]), (2, [1, 0])])
        self.assertEqual(sorted(rounds([[TOP, 1], [1, TOP]])), [(1, [1, 0]), (TOP, [0, 1])])

    def test_a_single_step_off_level(self):
        for many in range(2, 9):
            for row in range(many):
                for column in range(many):
                    with self.subTest(many=many, row=row, column=column):
                        table = level(many)
                        table[row][column] += 1
                        check_refusal(self, Uneven, rounds, table)

    def test_only_rows_or_only_columns_alike(self):
        for many in range(2, 9):
            alike_rows = level(many)
            for row in alike_rows:
                row[0] += 1
            alike_columns = [list(line) for line in zip(*alike_rows)]
            with self.subTest(many=many):
                check_refusal(self, Uneven, rounds, alike_rows)
                check_refusal(self, Uneven, rounds, alike_columns)

    def test_no_table_is_not_called_uneven(self):
        for label, bad in no_tables():
            with self.subTest(label):
                check_refusal(self, BadTable, rounds, bad)
        check_refusal(self, BadTable, rounds, [[1, 0], [5, -1]])
        check_refusal(self, BadTable, rounds, [[1, 0], [5, 5], [0, 0]])
        check_refusal(self, BadTable, rounds, [[1, 2], [3, TOP + 1]])


class Fewest(Pairs):
    def check(self, table):
        pairs = fewest(table)
        self.check_pairs(table, pairs, max(all_sums(table)))
        self.assertLessEqual(len(pairs), 200)
        for times, places in pairs:
            self.assertNotEqual(places, [None] * len(table))

    def test_drawn_tables(self):
        for label, table in drawn_tables():
            with self.subTest(label, table=table):
                self.check(table)

    def test_every_small_table(self):
        for many, numbers in ((1, range(4)), (2, range(4)), (3, range(3))):
            for table in all_of(many, numbers):
                self.check(table)

    def test_noughts_alone_have_none(self):
        for many in range(1, 9):
            self.assertEqual(fewest(filled(many, 0)), [])

    def test_a_level_table_has_seatings_alone(self):
        for label, table in drawn_levels():
            with self.subTest(label, table=table):
                for times, places in fewest(table):
                    self.assertNotIn(None, places)

    def test_a_lone_number(self):
        for many in range(1, 9):
            for row in range(many):
                for column in range(many):
                    table = filled(many, 0)
                    table[row][column] = TOP
                    places = [column if k == row else None for k in range(many)]
                    with self.subTest(many=many, row=row, column=column):
                        self.check(table)
                        self.assertEqual({tuple(told) for times, told in fewest(table)}, {tuple(places)})

    def test_a_full_line(self):
        for many in range(1, 9):
            for k in range(many):
                wide = filled(many, 0)
                wide[k] = [TOP] * many
                high = [list(line) for line in zip(*wide)]
                with self.subTest(many=many, k=k):
                    self.check(wide)
                    self.check(high)

    def test_no_table(self):
        for label, bad in no_tables():
            with self.subTest(label):
                check_refusal(self, BadTable, fewest, bad)


if __name__ == "__main__":
    unittest.main()
