"""The texts of tables and filters."""

from queryheld.errors import InvalidText, NotText
from queryheld.filters import MOST_TUPLES, check_filter, is_filter
from queryheld.forms import FORMS
from queryheld.tables import check_semantics, check_tables, is_table

NULL = "null"
NO_ROW = "-"

# Each digit stands at the place of its number.
DIGITS = ("0", "1", "2", "3", "4", "5", "6", "7", "8", "9")

# A tuple of a filter is a word and at most two numbers.
MOST_WORDS_OF_TUPLE = 3


def check_text(value):
    """Raise NotText if value is no string."""
    if not isinstance(value, str):
        raise NotText("not a string")


def value_text(value):
    """Return the text of an integer or of null."""
    return NULL if value is None else str(value)


def write_table(semantics, A):
    """Return the text of a table."""
    check_tables(semantics, (A,))
    if len(A) == 0:
        return NO_ROW
    return "; ".join([",".join([value_text(value) for value in row]) for row in A])


def read_table(semantics, text):
    """Return the table of a text."""
    check_semantics(semantics)
    check_text(text)
    rows = () if text == NO_ROW else tuple([_row_in(part) for part in text.split("; ")])
    if not is_table(semantics, rows):
        raise InvalidText("rows that are no table")
    return rows


def _row_in(text):
    return tuple([None if word == NULL else _number_in(word) for word in text.split(",")])


def _number_in(word):
    # Compared as a whole: Python itself would also read a number from "00", "+1" or " 1".
    if word not in DIGITS:
        raise InvalidText("not a number from 0 to 9")
    return DIGITS.index(word)


def write_filter(filter_):
    """Return the text of a filter."""
    check_filter(filter_)
    return _text_of(filter_)


def _text_of(part):
    if isinstance(part, tuple):
        return " ".join([_text_of(inner) for inner in part])
    return str(part)


def read_filter(text):
    """Return the filter of a text."""
    check_text(text)
    words = text.split(" ")
    if len(words) > MOST_WORDS_OF_TUPLE * MOST_TUPLES:
        raise InvalidText("more words than a filter has")
    parts = _parts_in(words)
    if len(parts) != 1 or not is_filter(parts[0]):
        raise InvalidText("not the text of a filter")
    return parts[0]


def _parts_in(words):
    """Return the list of numbers and tuples that words make, each tuple with as many parts as its word wants."""
    parts = []
    # From the last word to the first one, so that the parts of a word are there when it comes.
    for word in reversed(words):
        if ("filter", word) in FORMS:
            many = len(FORMS["filter", word])
            parts = [(word, *parts[:many]), *parts[many:]]
        else:
            parts = [_number_in(word), *parts]
    return parts
