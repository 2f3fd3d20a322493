"""Notes: a table written as a text, and such a text read."""

from evenrounds.errors import BadTable, NoText
from evenrounds.tables import check_table

FIGURES = "0123456789"
MOST_FIGURES = 7


def line_of(row):
    return " ".join([str(number) for number in row]) + "\n"


def shown(table):
    check_table(table)
    return "".join([line_of(row) for row in table])


def number_of(word):
    if len(word) < 1 or len(word) > MOST_FIGURES:
        raise NoText(f"a number has from 1 to {MOST_FIGURES} figures")
    for sign in word:
        # Not isdigit: it takes figures of other scripts too.
        if sign not in FIGURES:
            raise NoText("a number is written by figures 0 to 9")
    if word[0] == "0" and len(word) > 1:
        raise NoText("a number has no needless nought")
    return int(word)


def row_of(line):
    return [number_of(word) for word in line.split(" ")]


def read(text):
    if not text.endswith("\n"):
        raise NoText("a line end stands behind each line")
    # Not splitlines: it takes other signs for line ends too.
    table = [row_of(line) for line in text[:-1].split("\n")]
    try:
        check_table(table)
    except BadTable:
        raise NoText("the text tells no table") from None
    return table
