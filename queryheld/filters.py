"""Filters of rows, and their truth in three values: True, False and None (unknown)."""

from queryheld.errors import BadFilter, BadRow
from queryheld.tables import GREATEST_VALUE, NULLS, check_semantics, is_integer_to, is_row, value_order

# What stands behind each word of a filter.
PARTS = {
    "less": ("column", "number"),
    "equal": ("column", "number"),
    "same": (),
    "null": ("column",),
    "not": ("filter",),
    "and": ("filter", "filter"),
    "or": ("filter", "filter"),
}

LAST_COLUMN = 1
MOST_TUPLES = 20


def is_filter(value):
    """Return whether value is a filter."""
    # No recursion here: a value may be nested deeper than calls can be.
    waiting = [value]
    tuples = 0
    while waiting:
        part = waiting.pop()
        tuples += 1
        if tuples > MOST_TUPLES or not _has_form(part):
            return False
        waiting.extend(_inner_filters(part))
    return True


def _has_form(value):
    """Return whether value is a filter as far as can be told without its inner filters."""
    if not isinstance(value, tuple) or len(value) == 0:
        return False
    # Only a string is looked up: a list or a dict cannot be a key.
    if not isinstance(value[0], str) or value[0] not in PARTS:
        return False
    kinds = PARTS[value[0]]
    if len(value) != 1 + len(kinds):
        return False
    return all([_fits(part, kind) for part, kind in zip(value[1:], kinds)])


def _fits(part, kind):
    if kind == "column":
        return is_integer_to(part, LAST_COLUMN)
    if kind == "number":
        return is_integer_to(part, GREATEST_VALUE)
    return True


def _inner_filters(value):
    kinds = PARTS[value[0]]
    return [part for part, kind in zip(value[1:], kinds) if kind == "filter"]


def check_filter(value):
    """Raise BadFilter if value is no filter."""
    if not is_filter(value):
        raise BadFilter("not a filter")


def truth(semantics, filter_, row):
    """Return the truth of a filter for a row: True, False or None (unknown)."""
    check_semantics(semantics)
    check_filter(filter_)
    if not is_row(semantics, row):
        raise BadRow("not a row of two values")
    return _truth_of(filter_, row, semantics[NULLS])


def _truth_of(filter_, row, nulls):
    word = filter_[0]
    if word == "not":
        return negation(_truth_of(filter_[1], row, nulls))
    if word == "and":
        return conjunction(_truth_of(filter_[1], row, nulls), _truth_of(filter_[2], row, nulls))
    if word == "or":
        return disjunction(_truth_of(filter_[1], row, nulls), _truth_of(filter_[2], row, nulls))
    if word == "null":
        return row[filter_[1]] is None
    if word == "same":
        return _comparison("equal", row[0], row[1], nulls)
    return _comparison(word, row[filter_[1]], filter_[2], nulls)


def _comparison(word, one, other, nulls):
    if nulls == "unknown" and (one is None or other is None):
        return None
    if word == "less":
        return value_order(one) < value_order(other)
    return one == other


def negation(one):
    """Return the truth of "not" for a part's truth."""
    return None if one is None else not one


def conjunction(one, other):
    """Return the truth of "and" for the truths of its parts."""
    if one is False or other is False:
        return False
    if one is None or other is None:
        return None
    return True


def disjunction(one, other):
    """Return the truth of "or" for the truths of its parts."""
    if one is True or other is True:
        return True
    if one is None or other is None:
        return None
    return False
