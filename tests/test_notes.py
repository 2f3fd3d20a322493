import re
import unittest

from evenrounds.errors import BadTable, NoText
from evenrounds.notes import read, shown
from samples import TOP, check_refusal, drawn_tables, filled, mixed, no_tables

NUMBER = "(?:0|[1-9][0-9]{0,6})"
TEXT = re.compile(f"(?:{NUMBER}(?: {NUMBER})*\n)+")
SIGNS = "\t\n" + "".join(chr(k) for k in range(ord(" "), ord("~") + 1) if chr(k) != "%")
SOME_SIGNS = "\t\n 0159-+._,/:aZ~"
ODD_SIGNS = ["%", "\r", "\x0b", "\x0c", "\x1c", "\x85", "\u2028", "\xa0", "\x00", "\xb2", "\u0663", "\uff11", "\U0001d7d9"]
TEXTS = ["0\n", "7\n", "10\n", "1000000\n", "1 2\n3 4\n", "0 0\n0 0\n", "10 0\n1000000 203\n", "1 0 2\n0 30 0\n400 5 6\n"]


def wanted(text):
    """The table that a text tells, or None: a second reading, by a pattern."""
    if not TEXT.fullmatch(text):
        return None
    rows = [[int(word) for word in line.split(" ")] for line in text[:-1].split("\n")]
    if len(rows) > 8 or max(map(max, rows)) > TOP or any(len(row) != len(rows) for row in rows):
        return None
    return rows


def spoiled(text, signs):
    for k in range(len(text) + 1):
        for sign in signs:
            yield text[:k] + sign + text[k:]
            yield text[:k] + sign + text[k + 1:]
        yield text[:k] + text[k + 1:]
        yield text[:k]
        yield text[k:]
    lines = text.splitlines(keepends=True)
    for k in range(len(lines)):
        yield "".join(lines[:k] + lines[k + 1:])
        yield "".join(lines[:k] + [lines[k]] + lines[k:])
        yield "".join(lines[:k] + ["\n"] + lines[k:])
    yield text + "\n"
    yield text + text
    yield text.replace("\n", "\r\n")
    yield text.replace("\n", " \n")
    yield text.replace("\n", "\n ")
    yield text.replace(" ", "  ")
    yield text.replace(" ", "\t")
    yield text.replace(" ", "")


class Notes(unittest.TestCase):
    def check_read(self, text):
        table = wanted(text)
        with self.subTest(text=text):
            if table is None:
                check_refusal(self, NoText, read, text)
            else:
                self.assertEqual(read(text), table)

    def test_the_signs_told(self):
        self.assertEqual(len(SIGNS), 96)
        self.assertEqual({"\t", "\n", " ", "~", "0"} - set(SIGNS), set())


class Shown(Notes):
    def test_written_out(self):
        self.assertEqual(shown([[0]]), "0\n")
        self.assertEqual(shown([[TOP]]), "1000000\n")
        self.assertEqual(shown([[1, 2], [3, 4]]), "1 2\n3 4\n")
        self.assertEqual(shown([[10, 0, 7], [0, 0, 0], [100, 90, 1000000]]), "10 0 7\n0 0 0\n100 90 1000000\n")
        self.assertEqual(shown(filled(8, TOP)), ("1000000 " * 7 + "1000000\n") * 8)

    def test_sign_by_sign(self):
        for label, table in drawn_tables():
            with self.subTest(label):
                text = ""
                for row in table:
                    for k, number in enumerate(row):
                        text += ("" if k == 0 else " ") + str(number)
                    text += "\n"
                told = shown(table)
                self.assertIs(type(told), str)
                self.assertEqual(told, text)

    def test_no_table(self):
        for label, bad in no_tables():
            with self.subTest(label):
                check_refusal(self, BadTable, shown, bad)


class Read(Notes):
    def test_there_and_back(self):
        for label, table in drawn_tables():
            with self.subTest(label):
                text = shown(table)
                told = read(text)
                self.assertEqual(told, table)
                self.assertEqual(shown(told), text)

    def test_kinds(self):
        for many in range(1, 9):
            told = read(shown(mixed(many)))
            self.assertIs(type(told), list)
            for row in told:
                self.assertIs(type(row), list)
                self.assertEqual([type(number) for number in row], [int] * many)

    def test_written_out(self):
        self.assertEqual(read("0\n"), [[0]])
        self.assertEqual(read("1000000\n"), [[TOP]])
        self.assertEqual(read("1 2\n3 4\n"), [[1, 2], [3, 4]])
        self.assertEqual(read("10 0\n0 999999\n"), [[10, 0], [0, 999999]])

    def test_refused_as_the_document_names_it(self):
        for label, text in (
            ("no text", ""), ("an empty line alone", "\n"), ("an empty line ahead", "\n1\n"),
            ("an empty line behind", "1\n\n"), ("an empty line between", "1 2\n\n3 4\n"),
            ("no line end", "1"), ("no line end at the end", "1 2\n3 4"), ("a blank in its place", "1 "),
            ("a blank alone", " "), ("a line with a blank alone", " \n"), ("a tab", "1\t2\n3 4\n"),
            ("a blank ahead", " 1\n"), ("a blank behind", "1 \n"), ("two blanks", "1  2\n3 4\n"),
            ("a blank behind the last line end", "1\n "), ("no blank", "12\n34\n"),
            ("a needless nought", "01\n"), ("noughts", "00\n"), ("seven noughts", "0000000\n"),
            ("a needless nought of seven figures", "0000001\n"), ("eight noughts", "00000000\n"),
            ("above the bound", "1000001\n"), ("seven figures", "9999999\n"), ("eight figures", "10000000\n"),
            ("eight figures with a nought", "01000000\n"), ("many figures", "1" * 799 + "\n"),
            ("more figures than Python reads", "1" * 5000 + "\n"),
            ("below nought", "-1\n"), ("a plus", "+1\n"), ("minus nought", "-0\n"), ("a low line", "1_0\n"),
            ("a point", "1.0\n"), ("a power", "1e3\n"), ("sixteens", "0x1\n"), ("letters", "one\n"),
            ("a comma", "1,2\n3,4\n"), ("a list", "[[1]]\n"), ("a remark", "1 # one\n"),
            ("a row too few", "1 2\n"), ("a row too many", "1\n2\n"), ("a short row", "1 2\n3\n"),
            ("a long row", "1 2\n3 4 5\n"), ("a short first row", "1\n3 4\n"),
        ):
            with self.subTest(label):
                self.assertIsNone(wanted(text))
                check_refusal(self, NoText, read, text)

    def test_more_than_eight_rows(self):
        for many in (9, 10, 15):
            for number in ("0", "1", "22"):
                line = " ".join([number] * many) + "\n"
                with self.subTest(many=many, number=number):
                    check_refusal(self, NoText, read, line * many)
                    check_refusal(self, NoText, read, line * 8)
                    check_refusal(self, NoText, read, (" ".join([number] * 8) + "\n") * many)
                    check_refusal(self, NoText, read, (number + "\n") * many)

    def test_numbers_about_the_bound_at_each_place(self):
        for many in range(1, 9):
            for place in range(many * many):
                for number in (999999, 1000000, 1000001, 1999999, 2000000, 9999999, 10000000):
                    numbers = ["3"] * (many * many)
                    numbers[place] = str(number)
                    lines = [" ".join(numbers[k:k + many]) + "\n" for k in range(0, many * many, many)]
                    self.assertEqual(wanted("".join(lines)) is None, number > TOP)
                    self.check_read("".join(lines))

    def test_short_texts_spoiled_by_each_sign(self):
        for text in TEXTS:
            for other in spoiled(text, SIGNS):
                self.check_read(other)

    def test_texts_spoiled_by_signs_beyond_those_told(self):
        for text in TEXTS:
            for other in spoiled(text, ODD_SIGNS):
                self.check_read(other)

    def test_texts_of_every_size_spoiled(self):
        for many in range(1, 9):
            for table in (filled(many, 0), mixed(many), filled(many, TOP)):
                for other in spoiled(shown(table), SOME_SIGNS):
                    self.check_read(other)

    def test_every_text_of_few_signs(self):
        texts = [""]
        for _ in range(6):
            for text in texts:
                self.check_read(text)
            texts = [text + sign for text in texts for sign in "01 \n-"]

    def test_long_texts(self):
        for text in ("0" * 800, " " * 800, "\n" * 800, "1 " * 400, "1\n" * 400, "\t" * 800, "1 2\n" * 200,
                     shown(filled(8, TOP)) + "\n" * 288, shown(filled(8, 5)) * 6, "~" * 801, "1 2\n3 4\n" * 120):
            check_refusal(self, NoText, read, text)


if __name__ == "__main__":
    unittest.main()
