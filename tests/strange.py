"""Values that are no semantics, no row, no table and no filter, for the tests of wrong inputs."""

from queryheld.desks import Desk
from queryheld.errors import BadTable, QueryError


def nested(innermost, wrap, times):
    value = innermost
    for _ in range(times):
        value = wrap(value)
    return value


def circular_tuple():
    inner = []
    value = ("not", inner)
    inner.append(value)
    return value


DEEP = 100000

STRANGE = (
    None,
    True,
    False,
    0,
    1,
    -1,
    12,
    10 ** 5000,
    -(10 ** 5000),
    "",
    "bag",
    "same",
    "bag sum count unknown null",
    [],
    {},
    [[]],
    {"same": True},
    {0: (0, 0)},
    ([],),
    ({},),
    ((),),
    (None,),
    (True,),
    (((),),),
    ([[], {}], {}),
    ({}, [], 0, "x", None),
    (("same",), 0),
    QueryError("x"),
    BadTable(0),
    (BadTable(0),),
    (QueryError("x"), BadTable(0)),
    Desk(("bag", "sum", "count", "unknown", "null")),
    (Desk(("set", "maximum", "kind", "none", "zero")),),
    nested((), lambda value: (value,), DEEP),
    nested([], lambda value: [value], DEEP),
    nested({}, lambda value: {0: value}, DEEP),
    nested((), lambda value: ([value],), DEEP),
    nested((), lambda value: (value, value), DEEP),
    nested((0, 0), lambda value: (value, value), DEEP),
    nested(("same",), lambda value: ("not", value), DEEP),
    nested(("same",), lambda value: ("and", value, value), DEEP),
    nested(("same",), lambda value: ["not", value], DEEP),
    circular_tuple(),
)
