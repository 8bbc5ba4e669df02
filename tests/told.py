"""What the document tells of each identity: its arguments, where it holds, and what breaks it, for the tests."""

T = "table"
F = "filter"

SHAPES = (
    ("idempotent union", (T,)),
    ("absorbing union", (T, T)),
    ("absorbing intersection", (T, T)),
    ("intersection by difference", (T, T)),
    ("difference of union", (T, T, T)),
    ("union less part", (T, T)),
    ("add and take", (T, T)),
    ("intersection over union", (T, T, T)),
    ("union over intersection", (T, T, T)),
    ("filter or", (T, F, F)),
    ("filter and", (T, F, F)),
    ("filter not", (T, F)),
    ("filter complete", (T, F)),
    ("projection of union", (T, T)),
    ("projection of intersection", (T, T)),
    ("self semijoin", (T,)),
    ("semijoin and antijoin", (T, T)),
    ("not in", (T, T)),
    ("join as semijoin", (T, T)),
    ("join over union", (T, T, T)),
    ("count of union", (T, T)),
    ("inclusion and exclusion", (T, T)),
    ("total of union", (T, T)),
    ("total of parts", (T, F)),
    ("distinct union", (T, T)),
    ("distinct difference", (T, T)),
)

R = (0, 0)
S = (0, 1)
N = (None, 0)
P = ("less", 0, 1)

# Arguments for which an identity does not hold wherever it is not told to hold for all.
BREAKING = {
    "idempotent union": ((R,),),
    "intersection by difference": ((R, R), (R,)),
    "distinct difference": ((R, R), (R,)),
    "difference of union": ((R, R), (R,), (R,)),
    "intersection over union": ((R,), (R,), (R,)),
    "filter or": ((R,), P, P),
    "filter not": ((N,), P),
    "filter complete": ((N,), P),
    "projection of union": ((R,), (S,)),
    "projection of intersection": ((R,), (S,)),
    "self semijoin": ((N,),),
    "not in": ((R,), (N,)),
    "join as semijoin": ((R,), (R, S)),
}


def told(semantics):
    """Where the document tells that each identity holds for all tables and filters."""
    duplicates, sums, differences, nulls, empty = semantics
    one, most, kind = duplicates == "set", sums == "maximum", differences == "kind"
    known, zero = nulls != "unknown", empty == "zero"
    never = ("projection of intersection",)
    return {name: True for name, _ in SHAPES} | {name: False for name in never} | {
        "idempotent union": one or most,
        "absorbing union": one or most,
        "intersection by difference": one or not kind,
        "difference of union": one or kind or not most,
        "union less part": one or kind or most,
        "add and take": not one and not most and not kind,
        "intersection over union": one or most,
        "filter or": one or most,
        "filter not": known,
        "filter complete": known,
        "projection of union": one or not most,
        "self semijoin": known,
        "not in": known,
        "join as semijoin": one,
        "count of union": not one and not most,
        "inclusion and exclusion": one or most,
        "total of union": not one and not most and zero,
        "total of parts": zero and known,
        "distinct union": one or most,
        "distinct difference": one or kind,
    }


def breaking(semantics, identity):
    if identity == "total of union":
        return ((S,), ()) if semantics[:2] == ("bag", "sum") else ((S,), (S,))
    if identity == "total of parts":
        return (((None, 1),), P) if semantics[3] == "unknown" else ((S,), P)
    return BREAKING.get(identity, ((R,), (R,)))
