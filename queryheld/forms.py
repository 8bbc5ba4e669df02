"""The forms of filters, conditions and expressions: tuples of a word, numbers and further such tuples."""

from queryheld.tables import is_integer_to

# What stands behind each word, for each kind of tuple.
FORMS = {
    ("filter", "less"): ("column", "number"),
    ("filter", "equal"): ("column", "number"),
    ("filter", "same"): (),
    ("filter", "null"): ("column",),
    ("filter", "not"): ("filter",),
    ("filter", "and"): ("filter", "filter"),
    ("filter", "or"): ("filter", "filter"),
    ("condition", "p"): (),
    ("condition", "q"): (),
    ("condition", "not"): ("condition",),
    ("condition", "and"): ("condition", "condition"),
    ("condition", "or"): ("condition", "condition"),
    ("expression", "table"): ("place",),
    ("expression", "union"): ("expression", "expression"),
    ("expression", "intersection"): ("expression", "expression"),
    ("expression", "difference"): ("expression", "expression"),
    ("expression", "filter"): ("condition", "expression"),
}

# Numbers of each kind go from 0 to the greatest one.
GREATEST = {"column": 1, "number": 9, "place": 1}


def tuples_of(value, kind, most):
    """Return the list of all tuples in a value of a kind, or None if it is none or has more than most tuples."""
    # No recursion here: a value may be nested deeper than calls can be.
    waiting = [(value, kind)]
    found = []
    while waiting:
        part, part_kind = waiting.pop()
        if len(found) == most or not _has_form(part, part_kind):
            return None
        found.append(part)
        waiting.extend(_inner_tuples(part, part_kind))
    return found


def _has_form(value, kind):
    """Return whether value is of a kind as far as can be told without its inner tuples."""
    if not isinstance(value, tuple) or len(value) == 0:
        return False
    # Only a string is looked up: a list or a dict cannot be in a key.
    if not isinstance(value[0], str) or (kind, value[0]) not in FORMS:
        return False
    kinds = FORMS[kind, value[0]]
    if len(value) != 1 + len(kinds):
        return False
    return all([_fits(part, part_kind) for part, part_kind in zip(value[1:], kinds)])


def _fits(part, kind):
    if kind in GREATEST:
        return is_integer_to(part, GREATEST[kind])
    return True


def _inner_tuples(value, kind):
    """Return the parts of a tuple that are to be tuples themselves, with their kinds."""
    kinds = FORMS[kind, value[0]]
    return [(part, part_kind) for part, part_kind in zip(value[1:], kinds) if part_kind not in GREATEST]
