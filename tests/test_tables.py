import copy
import unittest

from evenrounds.errors import BadSeating, BadTable
from evenrounds.tables import laid, odd_line, sums
from samples import TOP, filled, level, mixed, no_tables, rotated


class NoTable(unittest.TestCase):
    def test_sums_refuses(self):
        for label, bad in no_tables():
            with self.subTest(label):
                with self.assertRaises(BadTable):
                    sums(bad)

    def test_odd_line_refuses(self):
        for label, bad in no_tables():
            with self.subTest(label):
                with self.assertRaises(BadTable):
                    odd_line(bad)

    def test_an_odd_row_ahead_of_the_fault_does_not_hide_it(self):
        with self.assertRaises(BadTable):
            odd_line([[1, 0, 0], [5, 5, 5], [0, 0, -1]])

    def test_what_is_refused_stays_as_it_was(self):
        for label, bad in no_tables():
            with self.subTest(label):
                before = copy.deepcopy(bad)
                with self.assertRaises(BadTable):
                    sums(bad)
                with self.assertRaises(BadTable):
                    odd_line(bad)
                self.assertEqual(bad, before)


class Sums(unittest.TestCase):
    def test_written_out(self):
        self.assertEqual(sums([[5]]), ([5], [5]))
        self.assertEqual(sums([[1, 2], [3, 4]]), ([3, 7], [4, 6]))
        self.assertEqual(sums([[1, 2, 3], [4, 5, 6], [7, 8, 10]]), ([6, 15, 25], [12, 15, 19]))

    def test_every_size(self):
        for many in range(1, 9):
            with self.subTest(many=many):
                table = mixed(many)
                rows, columns = [0] * many, [0] * many
                for row in range(many):
                    for column in range(many):
                        rows[row] += table[row][column]
                        columns[column] += table[row][column]
                self.assertEqual(sums(table), (rows, columns))

    def test_both_bounds(self):
        for many in range(1, 9):
            with self.subTest(many=many):
                self.assertEqual(sums(filled(many, 0)), ([0] * many, [0] * many))
                self.assertEqual(sums(filled(many, TOP)), ([many * TOP] * many, [many * TOP] * many))
        self.assertEqual(sums([[0, TOP], [0, 0]]), ([TOP, 0], [0, TOP]))

    def test_kinds(self):
        for many in range(1, 9):
            told = sums(mixed(many))
            self.assertIs(type(told), tuple)
            self.assertEqual([type(part) for part in told], [list, list])

    def test_what_is_handed_in_stays_and_is_not_kept(self):
        table = mixed(4)
        before = copy.deepcopy(table)
        first = sums(table)
        self.assertEqual(table, before)
        wanted = copy.deepcopy(first)
        table[1][2] += 1
        table.append([])
        self.assertEqual(first, wanted)
        self.assertEqual(sums(before), wanted)

    def test_what_is_told_is_the_askers_own(self):
        for many in range(1, 9):
            with self.subTest(many=many):
                table = level(many)
                before = copy.deepcopy(table)
                told = sums(table)
                wanted = copy.deepcopy(told)
                self.assertIsNot(told[0], told[1])
                for part in told:
                    for row in table:
                        self.assertIsNot(part, row)
                told[0].append(7)
                told[0][0] = -5
                self.assertEqual(told[1], wanted[1])
                self.assertEqual(table, before)
                self.assertEqual(sums(table), wanted)


class OddLine(unittest.TestCase):
    def test_level_tables_have_none(self):
        for many in range(1, 9):
            for table in (filled(many, 0), filled(many, 3), filled(many, TOP), level(many)):
                with self.subTest(table=table):
                    self.assertIsNone(odd_line(table))
        self.assertIsNone(odd_line([[7]]))
        self.assertIsNone(odd_line([[1, 2], [2, 1]]))

    def test_first_odd_row(self):
        self.assertEqual(odd_line([[1, 2], [3, 4]]), ("row", 1))
        self.assertEqual(odd_line([[1, 1, 1], [2, 1, 0], [0, 0, 4]]), ("row", 2))
        self.assertEqual(odd_line([[5, 0, 0], [0, 1, 0], [0, 0, 1]]), ("row", 1))
        self.assertEqual(odd_line([[0, 0], [0, TOP]]), ("row", 1))

    def test_each_row_can_be_the_first_odd_one(self):
        for many in range(2, 9):
            for row in range(1, many):
                for change in (1, -1):
                    with self.subTest(many=many, row=row, change=change):
                        table = filled(many, 4)
                        for later in range(row, many):
                            table[later][0] += change
                        self.assertEqual(odd_line(table), ("row", row))

    def test_a_row_goes_ahead_of_any_column(self):
        self.assertEqual(odd_line([[3, 0, 0], [3, 0, 0], [2, 0, 0]]), ("row", 2))

    def test_first_odd_column_where_rows_are_alike(self):
        self.assertEqual(odd_line([[2, 0], [2, 0]]), ("column", 0))
        self.assertEqual(odd_line([[0, 1, 1], [1, 1, 0], [1, 1, 0]]), ("column", 1))

    def test_each_column_but_the_last_can_be_the_first_odd_one(self):
        for many in range(2, 9):
            for column in range(many - 1):
                for change in (1, -1):
                    with self.subTest(many=many, column=column, change=change):
                        table = filled(many, 4)
                        table[many - 1][column] += change
                        table[many - 1][column + 1] -= change
                        self.assertEqual(odd_line(table), ("column", column))

    def test_columns_are_held_against_row_0(self):
        # Columns 0 and 1 are alike, yet neither has the sum of row 0.
        self.assertEqual(odd_line([[2, 1, 0], [1, 2, 0], [1, 1, 1]]), ("column", 0))

    def test_kind(self):
        self.assertIs(type(odd_line([[1, 2], [3, 4]])), tuple)
        self.assertIs(type(odd_line([[2, 0], [2, 0]])), tuple)

    def test_what_is_handed_in_stays(self):
        for table in (mixed(5), level(5), [[2, 0], [2, 0]]):
            before = copy.deepcopy(table)
            told = odd_line(table)
            self.assertEqual(table, before)
            table[0][0] += 1
            self.assertEqual(odd_line(before), told)


class Laid(unittest.TestCase):
    def test_no_pairs(self):
        for many in range(1, 9):
            self.assertEqual(laid(many, []), filled(many, 0))

    def test_one_pair(self):
        self.assertEqual(laid(1, [(4, [0])]), [[4]])
        self.assertEqual(laid(3, [(2, [1, 2, 0])]), [[0, 2, 0], [0, 0, 2], [2, 0, 0]])
        self.assertEqual(laid(3, [(5, [None, 0, None])]), [[0, 0, 0], [5, 0, 0], [0, 0, 0]])

    def test_places_without_any_column(self):
        self.assertEqual(laid(1, [(4, [None])]), [[0]])
        self.assertEqual(laid(2, [(4, [None, None]), (1, [1, 0])]), [[0, 1], [1, 0]])

    def test_several_pairs(self):
        pairs = [(2, [0, 1, 2]), (3, [0, 2, None]), (1, [2, 1, 0])]
        self.assertEqual(laid(3, pairs), [[5, 0, 1], [0, 3, 3], [1, 0, 2]])

    def test_the_same_pair_more_than_once(self):
        pair = (3, [1, 0])
        self.assertEqual(laid(2, [pair, pair, pair]), [[0, 9], [9, 0]])
        self.assertEqual(laid(2, [(3, [1, None]), (3, [1, None])]), [[0, 6], [0, 0]])

    def test_numbers_above_the_bound(self):
        self.assertEqual(laid(1, [(TOP + 1, [0])]), [[TOP + 1]])
        self.assertEqual(laid(2, [(TOP, [0, 1]), (TOP, [0, None])]), [[2 * TOP, 0], [0, TOP]])
        self.assertEqual(laid(1, [(TOP, [0])] * 200), [[200 * TOP]])
        self.assertEqual(laid(1, [(10 ** 5000, [0])]) == [[10 ** 5000]], True)

    def test_many_pairs_of_every_size(self):
        for many in range(1, 9):
            for length in (2, 199, 200, 201):
                with self.subTest(many=many, length=length):
                    pairs = []
                    wanted = filled(many, 0)
                    for k in range(length):
                        places = rotated(many, k * k)
                        if k % 3 == 1:
                            places[k % many] = None
                        pairs.append((k % 17 + 1, places))
                        for row, column in enumerate(places):
                            if column is not None:
                                wanted[row][column] += k % 17 + 1
                    self.assertEqual(laid(many, pairs), wanted)

    def test_kinds(self):
        told = laid(3, [(1, [0, 1, 2])])
        self.assertIs(type(told), list)
        self.assertEqual([type(row) for row in told], [list, list, list])

    def test_rows_out_of_bounds(self):
        for many in (0, 9, -1, 10, -2, -100, 10 ** 9, -10 ** 9, 10 ** 5000, -10 ** 5000):
            for pairs in ([], [(1, [0])], [(1, list(range(9)))], [(0, [0])], [(1, [3, 3])], [(1, [])]):
                with self.subTest(size=many.bit_length(), pairs=pairs):
                    with self.assertRaises(BadTable):
                        laid(many, pairs)

    def test_what_is_handed_in_stays_and_is_not_kept(self):
        pairs = [(2, [0, 1, 2]), (3, [0, 2, None])]
        before = copy.deepcopy(pairs)
        told = laid(3, pairs)
        wanted = copy.deepcopy(told)
        self.assertEqual(pairs, before)
        pairs[0][1][0] = None
        pairs.pop()
        self.assertEqual(told, wanted)
        self.assertEqual(laid(3, before), wanted)

    def test_what_is_told_is_the_askers_own(self):
        for many in range(1, 9):
            for pairs in ([], [(2, rotated(many, 1))]):
                with self.subTest(many=many, pairs=pairs):
                    before = copy.deepcopy(pairs)
                    told = laid(many, pairs)
                    wanted = copy.deepcopy(told)
                    self.assertEqual(len({id(row) for row in told}), many)
                    told[0][0] = -5
                    told[-1].append(9)
                    self.assertEqual(pairs, before)
                    self.assertEqual(laid(many, pairs), wanted)

    def test_one_places_list_in_several_pairs(self):
        places = [1, 0]
        self.assertEqual(laid(2, [(1, places), (2, places)]), [[0, 3], [3, 0]])
        self.assertEqual(places, [1, 0])


def bad_pairs(many):
    yield "too few places", (1, rotated(many, 1)[:-1])
    yield "too many places, none twice", (1, rotated(many, 1) + [None])
    yield "too many places", (1, rotated(many, 1) + [many])
    yield "one None too many", (1, [None] * (many + 1))
    yield "one None too few", (1, [None] * (many - 1))
    yield "no places", (1, [])
    for row in range(many):
        for column in (-1, -2, -many, -10 ** 9, -10 ** 5000, many, many + 1, 10 ** 9, 10 ** 5000):
            places = [None] * many
            places[row] = column
            yield f"a column of {column.bit_length()} bits out of bounds at row {row}", (1, places)
            places = rotated(many, 1)
            places[row] = column
            yield f"one such among columns at row {row}", (1, places)
    for row in range(many):
        for later in range(row + 1, many):
            for column in range(many):
                places = [None] * many
                places[row] = places[later] = column
                yield f"column {column} at rows {row} and {later} alone", (1, places)
            places = rotated(many, 1)
            places[later] = places[row]
            yield f"a column twice at rows {row} and {later}", (1, places)
    for times in (0, -1, -2, -10 ** 9, -10 ** 5000):
        yield f"times below 1, of {times.bit_length()} bits", (times, rotated(many, 1))
        yield f"the same with no column, of {times.bit_length()} bits", (times, [None] * many)


class LaidRefuses(unittest.TestCase):
    def test_a_bad_pair_wherever_it_stands(self):
        for many in range(1, 9):
            good = [(2, rotated(many, 0)), (1, [None] * many), (3, rotated(many, 1))]
            for label, bad in bad_pairs(many):
                for pairs in ([bad], good + [bad], [bad] + good, good + [bad] + good, [bad, bad]):
                    with self.subTest(label, many=many, length=len(pairs)):
                        with self.assertRaises(BadSeating):
                            laid(many, pairs)

    def test_at_the_end_of_200(self):
        for label, bad in bad_pairs(3):
            with self.subTest(label):
                with self.assertRaises(BadSeating):
                    laid(3, [(1, [0, 1, 2])] * 199 + [bad])

    def test_what_is_refused_stays_as_it_was(self):
        for label, bad in bad_pairs(4):
            with self.subTest(label):
                pairs = [(1, [0, 1, 2, 3]), bad, (2, [None, 0, 1, 2])]
                before = copy.deepcopy(pairs)
                with self.assertRaises(BadSeating):
                    laid(4, pairs)
                self.assertEqual(pairs, before)
                self.assertEqual(laid(4, [pairs[0]]), [[1, 0, 0, 0], [0, 1, 0, 0], [0, 0, 1, 0], [0, 0, 0, 1]])


if __name__ == "__main__":
    unittest.main()
