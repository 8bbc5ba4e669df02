"""The named identities, and whether they hold for given tables and filters."""

from queryheld.errors import BadArguments, BadIdentity
from queryheld.filters import CONNECTIVES, is_filter
from queryheld.operations import OPERATIONS, each_once
from queryheld.tables import check_semantics, is_table

# The two sides of each identity: an argument, or a word and its parts.
SIDES = {
    "idempotent union": (("union", "A", "A"), "A"),
    "absorbing union": (("union", "A", ("intersection", "A", "B")), "A"),
    "absorbing intersection": (("intersection", "A", ("union", "A", "B")), "A"),
    "intersection by difference": (
        ("intersection", "A", "B"),
        ("difference", "A", ("difference", "A", "B")),
    ),
    "difference of union": (
        ("difference", "A", ("union", "B", "C")),
        ("difference", ("difference", "A", "B"), "C"),
    ),
    "union less part": (("difference", ("union", "A", "B"), "B"), ("difference", "A", "B")),
    "add and take": (("difference", ("union", "A", "B"), "B"), "A"),
    "intersection over union": (
        ("intersection", "A", ("union", "B", "C")),
        ("union", ("intersection", "A", "B"), ("intersection", "A", "C")),
    ),
    "union over intersection": (
        ("union", "A", ("intersection", "B", "C")),
        ("intersection", ("union", "A", "B"), ("union", "A", "C")),
    ),
    "filter or": (("select", "A", ("or", "p", "q")), ("union", ("select", "A", "p"), ("select", "A", "q"))),
    "filter and": (("select", "A", ("and", "p", "q")), ("intersection", ("select", "A", "p"), ("select", "A", "q"))),
    "filter not": (("select", "A", ("not", "p")), ("difference", "A", ("select", "A", "p"))),
    "filter complete": (("select", "A", ("or", "p", ("not", "p"))), "A"),
    "projection of union": (("project", ("union", "A", "B")), ("union", ("project", "A"), ("project", "B"))),
    "projection of intersection": (
        ("project", ("intersection", "A", "B")),
        ("intersection", ("project", "A"), ("project", "B")),
    ),
    "self semijoin": (("semijoin", "A", "A"), "A"),
    "semijoin and antijoin": (("union", ("semijoin", "A", "B"), ("antijoin", "A", "B")), "A"),
    "not in": (("not_in", "A", "B"), ("antijoin", "A", "B")),
    "join as semijoin": (("pairs", ("join", "A", "B")), ("semijoin", "A", "B")),
    "join over union": (("join", "A", ("union", "B", "C")), ("union", ("join", "A", "B"), ("join", "A", "C"))),
    "count of union": (("count", ("union", "A", "B")), ("plus", ("count", "A"), ("count", "B"))),
    "inclusion and exclusion": (
        ("plus", ("count", ("union", "A", "B")), ("count", ("intersection", "A", "B"))),
        ("plus", ("count", "A"), ("count", "B")),
    ),
    "total of union": (("total", ("union", "A", "B")), ("plus", ("total", "A"), ("total", "B"))),
    "total of parts": (
        ("plus", ("total", ("select", "A", "p")), ("total", ("select", "A", ("not", "p")))),
        ("total", "A"),
    ),
    "distinct union": (("distinct", ("union", "A", "B")), ("union", ("distinct", "A"), ("distinct", "B"))),
    "distinct difference": (
        ("distinct", ("difference", "A", "B")),
        ("difference", ("distinct", "A"), ("distinct", "B")),
    ),
}

TABLE_NAMES = ("A", "B", "C")
FILTER_NAMES = ("p", "q")


def identities():
    """Return the tuple of the names of all identities."""
    return tuple(SIDES)


def is_identity(value):
    """Return whether value is the name of an identity."""
    # Only a string is looked up: a list or a dict cannot be a key.
    return isinstance(value, str) and value in SIDES


def check_identity(value):
    """Raise BadIdentity if value is no name of an identity."""
    if not is_identity(value):
        raise BadIdentity("not an identity")


def shape(identity):
    """Return the words "table" and "filter" for the arguments of an identity."""
    check_identity(identity)
    return tuple(["table" if name in TABLE_NAMES else "filter" for name in _names_of(identity)])


def _names_of(identity):
    """Return the names of the arguments of an identity, in the order A, B, C, p, q."""
    left, right = SIDES[identity]
    found = _names_in(left) + _names_in(right)
    return [name for name in TABLE_NAMES + FILTER_NAMES if name in found]


def _names_in(side):
    if isinstance(side, str):
        return [side]
    return [name for part in side[1:] for name in _names_in(part)]


def holds_for(semantics, identity, arguments):
    """Return whether an identity holds for a tuple of arguments."""
    check_semantics(semantics)
    check_identity(identity)
    if not _are_arguments(semantics, identity, arguments):
        raise BadArguments("not the arguments of the identity")
    given = dict(zip(_names_of(identity), arguments))
    left, right = SIDES[identity]
    return _value_of(semantics, left, given) == _value_of(semantics, right, given)


def _are_arguments(semantics, identity, value):
    words = shape(identity)
    if not isinstance(value, tuple) or len(value) != len(words):
        return False
    return all([_is_argument(semantics, word, part) for word, part in zip(words, value)])


def _is_argument(semantics, word, value):
    return is_table(semantics, value) if word == "table" else is_filter(value)


def _value_of(semantics, side, given):
    """Return the value of a side or a part of it: rows, a filter, an integer or None."""
    if isinstance(side, str):
        return given[side]
    return _applied(semantics, side[0], [_value_of(semantics, part, given) for part in side[1:]])


def _applied(semantics, word, parts):
    if word in CONNECTIVES:
        return (word, *parts)
    if word == "count":
        return len(parts[0])
    if word == "distinct":
        return each_once(parts[0])
    if word == "plus":
        return _plus(parts[0], parts[1])
    operation = OPERATIONS[word]
    return operation(semantics, *parts)


def _plus(one, other):
    if one is None or other is None:
        return None
    return one + other
