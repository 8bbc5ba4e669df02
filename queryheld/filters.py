"""Filters of rows, and their truth in three values: True, False and None (unknown)."""

from queryheld.errors import BadFilter, BadRow
from queryheld.forms import tuples_of
from queryheld.tables import NULLS, check_semantics, is_row, value_order

CONNECTIVES = ("not", "and", "or")

MOST_TUPLES = 20


def is_filter(value):
    """Return whether value is a filter."""
    return tuples_of(value, "filter", MOST_TUPLES) is not None


def check_filter(value):
    """Raise BadFilter if value is no filter."""
    if not is_filter(value):
        raise BadFilter("not a filter")


def truth(semantics, filter_, row):
    """Return the truth of a filter for a row: True, False or None (unknown)."""
    check_semantics(semantics)
    check_filter(filter_)
    if not is_row(semantics, row):
        raise BadRow("not a row of two values")
    return truth_of(semantics, filter_, row)


def truth_of(semantics, filter_, row):
    """Return what truth does, also for a filter of more tuples, and without looking at the arguments first."""
    word = filter_[0]
    if word in CONNECTIVES:
        return connected(word, [truth_of(semantics, part, row) for part in filter_[1:]])
    if word == "null":
        return row[filter_[1]] is None
    if word == "same":
        return _comparison(semantics, "equal", row[0], row[1])
    return _comparison(semantics, word, row[filter_[1]], filter_[2])


def _comparison(semantics, word, one, other):
    if semantics[NULLS] == "unknown" and (one is None or other is None):
        return None
    if word == "less":
        return value_order(one) < value_order(other)
    return one == other


def connected(word, truths):
    """Return the truth of "not", "and" or "or" for the list of the truths of its parts."""
    if word == "not":
        return _negation(truths[0])
    if word == "and":
        return _conjunction(truths[0], truths[1])
    return _disjunction(truths[0], truths[1])


def _negation(one):
    return None if one is None else not one


def _conjunction(one, other):
    if one is False or other is False:
        return False
    if one is None or other is None:
        return None
    return True


def _disjunction(one, other):
    if one is True or other is True:
        return True
    if one is None or other is None:
        return None
    return False
