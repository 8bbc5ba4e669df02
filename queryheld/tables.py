"""Semantics of query languages, values, rows and tables."""

from queryheld.errors import BadSemantics, BadTable

# The words for each part of a semantics, ascending.
WORDS = (
    ("bag", "set"),
    ("maximum", "sum"),
    ("count", "kind"),
    ("none", "unknown", "value"),
    ("null", "zero"),
)

# Where the parts of a semantics stand in it.
DUPLICATES = 0
UNION = 1
DIFFERENCE = 2
NULLS = 3
EMPTY = 4

GREATEST_VALUE = 9
ROW_LENGTH = 2
MOST_ROWS = 12


def is_semantics(value):
    """Return whether value is a semantics."""
    if not isinstance(value, tuple) or len(value) != len(WORDS):
        return False
    return all([part in words for part, words in zip(value, WORDS)])


def all_semantics():
    """Return the tuple of all semantics, ascending."""
    found = [()]
    for words in WORDS:
        found = [(*start, word) for start in found for word in words]
    return tuple(found)


def check_semantics(value):
    """Raise BadSemantics if value is no semantics."""
    if not is_semantics(value):
        raise BadSemantics("not a semantics")


def is_integer_to(value, greatest):
    """Return whether value is an integer from 0 to greatest."""
    # Python takes True and False for integers, the document does not.
    if not isinstance(value, int) or isinstance(value, bool):
        return False
    return 0 <= value <= greatest


def is_row(semantics, value):
    """Return whether value is a row of two values under a semantics."""
    if not isinstance(value, tuple) or len(value) != ROW_LENGTH:
        return False
    return all([_is_value_under(semantics, part) for part in value])


def _is_value_under(semantics, value):
    if value is None:
        return semantics[NULLS] != "none"
    return is_integer_to(value, GREATEST_VALUE)


def value_order(value):
    """Return an integer by which values are ordered, null before all integers."""
    return -1 if value is None else value


def row_order(row):
    """Return a tuple of integers by which rows are ordered."""
    return tuple([value_order(value) for value in row])


def is_table(semantics, value):
    """Return whether value is a table under a semantics."""
    check_semantics(semantics)
    if not isinstance(value, tuple) or len(value) > MOST_ROWS:
        return False
    if not all([is_row(semantics, row) for row in value]):
        return False
    return _is_ascending(value, semantics[DUPLICATES] == "bag")


def _is_ascending(rows, equal_allowed):
    places = [row_order(row) for row in rows]
    for before, after in zip(places, places[1:]):
        if before > after or (before == after and not equal_allowed):
            return False
    return True


def check_tables(semantics, values):
    """Raise BadTable with the number of the first of the values that is no table."""
    for index, value in enumerate(values):
        if not is_table(semantics, value):
            raise BadTable(index)
