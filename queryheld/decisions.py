"""Under which semantics the named identities hold, and tables that break them otherwise."""

from queryheld.identities import check_identity
from queryheld.tables import DUPLICATES, NULLS, UNION, check_semantics

# An identity holds if a semantics has all words of one of its tuples: with ((),) always, with () never.
HOLDS_WITH = {
    "idempotent union": (("set",), ("maximum",)),
    "absorbing union": (("set",), ("maximum",)),
    "absorbing intersection": ((),),
    "intersection by difference": (("set",), ("count",)),
    "difference of union": (("set",), ("kind",), ("sum",)),
    "union less part": (("set",), ("kind",), ("maximum",)),
    "add and take": (("bag", "sum", "count"),),
    "intersection over union": (("set",), ("maximum",)),
    "union over intersection": ((),),
    "filter or": (("set",), ("maximum",)),
    "filter and": ((),),
    "filter not": (("none",), ("value",)),
    "filter complete": (("none",), ("value",)),
    "projection of union": (("set",), ("sum",)),
    "projection of intersection": (),
    "self semijoin": (("none",), ("value",)),
    "semijoin and antijoin": ((),),
    "not in": (("none",), ("value",)),
    "join as semijoin": (("set",),),
    "join over union": ((),),
    "count of union": (("bag", "sum"),),
    "inclusion and exclusion": (("set",), ("maximum",)),
    "total of union": (("bag", "sum", "zero"),),
    "total of parts": (("zero", "none"), ("zero", "value")),
    "distinct union": (("set",), ("maximum",)),
    "distinct difference": (("set",), ("kind",)),
}

# The rows of the tables that break identities; "o" is the one row that the document gives no letter.
ROWS = {"r": (0, 0), "s": (0, 1), "n": (None, 0), "o": (None, 1)}

FILTER = ("less", 0, 1)

# What breaks an identity: "p" is the filter, every other string a table, a letter for each of its rows.
BROKEN_BY = {
    "idempotent union": ("r",),
    "intersection by difference": ("rr", "r"),
    "distinct difference": ("rr", "r"),
    "difference of union": ("rr", "r", "r"),
    "intersection over union": ("r", "r", "r"),
    "filter or": ("r", "p", "p"),
    "filter not": ("n", "p"),
    "filter complete": ("n", "p"),
    "projection of union": ("r", "s"),
    "projection of intersection": ("r", "s"),
    "self semijoin": ("n",),
    "not in": ("r", "n"),
    "join as semijoin": ("r", "rs"),
}


def holds(semantics, identity):
    """Return whether an identity holds for all tables and filters."""
    check_semantics(semantics)
    check_identity(identity)
    return any([all([word in semantics for word in words]) for words in HOLDS_WITH[identity]])


def counterexample(semantics, identity):
    """Return arguments for which an identity does not hold, or None if it holds for all."""
    if holds(semantics, identity):
        return None
    return tuple([_argument(letters) for letters in _broken_by(semantics, identity)])


def _broken_by(semantics, identity):
    # What breaks these two depends on the semantics.
    if identity == "total of union":
        counts_are_added = semantics[DUPLICATES] == "bag" and semantics[UNION] == "sum"
        return ("s", "") if counts_are_added else ("s", "s")
    if identity == "total of parts":
        return ("o", "p") if semantics[NULLS] == "unknown" else ("s", "p")
    return BROKEN_BY.get(identity, ("r", "r"))


def _argument(letters):
    if letters == "p":
        return FILTER
    return tuple([ROWS[letter] for letter in letters])
