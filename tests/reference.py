"""The operations and identities once more, by counters of rows, for comparison in the tests."""

from collections import Counter
from itertools import product

from queryheld.filters import truth
from queryheld.tables import is_table

ORDER = (None, 0, 1, 2, 3, 4, 5, 6, 7, 8, 9)

# Rows by which all identities can be broken, in ascending order.
ROWS = ((None, 0), (None, 1), (0, None), (0, 0), (0, 1), (1, 0))
FILTERS = (("less", 0, 1), ("null", 1), ("same",), ("not", ("equal", 1, 1)))


def tables_under(semantics, rows, most):
    """All tables of at most so many of the rows."""
    found = [()]
    for length in range(1, most + 1):
        found += [table for table in product(rows, repeat=length) if is_table(semantics, table)]
    return found


class Reference:
    """The operations under one semantics; tables are counters."""

    def __init__(self, semantics):
        self.semantics = semantics
        self.duplicates, self.sums, self.differences, self.nulls, self.empty = semantics

    def rows(self, table):
        return tuple(sorted(table.elements(), key=lambda row: [ORDER.index(value) for value in row]))

    def made(self, table):
        return Counter(set(table)) if self.duplicates == "set" else table

    def union(self, one, other):
        return self.made(one + other if self.sums == "sum" else one | other)

    def intersection(self, one, other):
        return self.made(one & other)

    def difference(self, one, other):
        if self.duplicates == "set" or self.differences == "kind":
            return Counter({row: n for row, n in one.items() if row not in other})
        return one - other

    def select(self, table, test):
        return Counter({row: n for row, n in table.items() if test(row) is True})

    def tests(self, *filters):
        return [lambda row, f=f: truth(self.semantics, f, row) for f in filters]

    def mapped(self, table, change):
        found = Counter()
        for row, n in table.items():
            found[change(row)] += n
        return self.made(found)

    def project(self, table):
        return self.mapped(table, lambda row: (row[0],))

    def pairs(self, table):
        return self.mapped(table, lambda row: (row[0], row[1]))

    def match(self, one, other):
        if None in (one, other):
            return one is other and self.nulls == "value"
        return one == other

    def differ(self, one, other):
        if None in (one, other) and self.nulls == "unknown":
            return False
        return one is not other if None in (one, other) else one != other

    def join(self, one, other):
        found = Counter()
        for (k, x), n in one.items():
            for (l, y), m in other.items():
                if self.match(k, l):
                    found[k, x, y] += n * m
        return found

    def semijoin(self, one, other):
        return self.select(one, lambda row: any(self.match(row[0], key) for key, _ in other))

    def antijoin(self, one, other):
        return self.select(one, lambda row: not any(self.match(row[0], key) for key, _ in other))

    def not_in(self, one, other):
        return self.select(one, lambda row: all(self.differ(row[0], key) for key, _ in other))

    def distinct(self, table):
        return Counter(set(table))

    def total(self, table):
        values = [value for _, value in table.elements() if value is not None]
        return sum(values) if values or self.empty == "zero" else None

    def plus(self, one, other):
        return None if None in (one, other) else one + other

    def holds_for(self, identity, arguments):
        made = [Counter(part) if not part or isinstance(part[0], tuple) else self.tests(part)[0] for part in arguments]
        left, right = IDENTITIES[identity](self, *made)
        return left == right


def conjunction(p, q):
    def test(row):
        truths = (p(row), q(row))
        return False if False in truths else None if None in truths else True
    return test


def disjunction(p, q):
    return negation(conjunction(negation(p), negation(q)))


def negation(p):
    def test(row):
        return {True: False, False: True, None: None}[p(row)]
    return test


IDENTITIES = {
    "idempotent union": lambda o, A: (o.union(A, A), A),
    "absorbing union": lambda o, A, B: (o.union(A, o.intersection(A, B)), A),
    "absorbing intersection": lambda o, A, B: (o.intersection(A, o.union(A, B)), A),
    "intersection by difference": lambda o, A, B: (o.intersection(A, B), o.difference(A, o.difference(A, B))),
    "difference of union": lambda o, A, B, C: (
        o.difference(A, o.union(B, C)), o.difference(o.difference(A, B), C)),
    "union less part": lambda o, A, B: (o.difference(o.union(A, B), B), o.difference(A, B)),
    "add and take": lambda o, A, B: (o.difference(o.union(A, B), B), A),
    "intersection over union": lambda o, A, B, C: (
        o.intersection(A, o.union(B, C)), o.union(o.intersection(A, B), o.intersection(A, C))),
    "union over intersection": lambda o, A, B, C: (
        o.union(A, o.intersection(B, C)), o.intersection(o.union(A, B), o.union(A, C))),
    "filter or": lambda o, A, p, q: (o.select(A, disjunction(p, q)), o.union(o.select(A, p), o.select(A, q))),
    "filter and": lambda o, A, p, q: (o.select(A, conjunction(p, q)), o.intersection(o.select(A, p), o.select(A, q))),
    "filter not": lambda o, A, p: (o.select(A, negation(p)), o.difference(A, o.select(A, p))),
    "filter complete": lambda o, A, p: (o.select(A, disjunction(p, negation(p))), A),
    "projection of union": lambda o, A, B: (o.project(o.union(A, B)), o.union(o.project(A), o.project(B))),
    "projection of intersection": lambda o, A, B: (
        o.project(o.intersection(A, B)), o.intersection(o.project(A), o.project(B))),
    "self semijoin": lambda o, A: (o.semijoin(A, A), A),
    "semijoin and antijoin": lambda o, A, B: (o.union(o.semijoin(A, B), o.antijoin(A, B)), A),
    "not in": lambda o, A, B: (o.not_in(A, B), o.antijoin(A, B)),
    "join as semijoin": lambda o, A, B: (o.pairs(o.join(A, B)), o.semijoin(A, B)),
    "join over union": lambda o, A, B, C: (o.join(A, o.union(B, C)), o.union(o.join(A, B), o.join(A, C))),
    "count of union": lambda o, A, B: (o.union(A, B).total(), A.total() + B.total()),
    "inclusion and exclusion": lambda o, A, B: (
        o.union(A, B).total() + o.intersection(A, B).total(), A.total() + B.total()),
    "total of union": lambda o, A, B: (o.total(o.union(A, B)), o.plus(o.total(A), o.total(B))),
    "total of parts": lambda o, A, p: (
        o.plus(o.total(o.select(A, p)), o.total(o.select(A, negation(p)))), o.total(A)),
    "distinct union": lambda o, A, B: (o.distinct(o.union(A, B)), o.union(o.distinct(A), o.distinct(B))),
    "distinct difference": lambda o, A, B: (
        o.distinct(o.difference(A, B)), o.difference(o.distinct(A), o.distinct(B))),
}
