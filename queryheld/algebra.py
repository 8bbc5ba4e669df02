"""The operations on tables."""

from queryheld.filters import check_filter
from queryheld.operations import antijoin_of, difference_of, each_once, intersection_of, join_of, not_in_of
from queryheld.operations import projection_of, selection_of, semijoin_of, total_of, union_of
from queryheld.tables import check_tables


def union(semantics, A, B):
    """Return the union of two tables."""
    check_tables(semantics, (A, B))
    return union_of(semantics, A, B)


def intersection(semantics, A, B):
    """Return the intersection of two tables."""
    check_tables(semantics, (A, B))
    return intersection_of(semantics, A, B)


def difference(semantics, A, B):
    """Return the difference of two tables."""
    check_tables(semantics, (A, B))
    return difference_of(semantics, A, B)


def select(semantics, A, filter_):
    """Return the rows of A for which a filter is True."""
    check_tables(semantics, (A,))
    check_filter(filter_)
    return selection_of(semantics, A, filter_)


def project(semantics, A):
    """Return for each row of A the row of its key alone."""
    check_tables(semantics, (A,))
    return projection_of(semantics, A)


def join(semantics, A, B):
    """Return the row (k, x, y) for each row (k, x) of A and each row (l, y) of B whose keys match."""
    check_tables(semantics, (A, B))
    return join_of(semantics, A, B)


def semijoin(semantics, A, B):
    """Return the rows of A whose key matches the key of some row of B."""
    check_tables(semantics, (A, B))
    return semijoin_of(semantics, A, B)


def antijoin(semantics, A, B):
    """Return the rows of A whose key matches the key of no row of B."""
    check_tables(semantics, (A, B))
    return antijoin_of(semantics, A, B)


def not_in(semantics, A, B):
    """Return the rows of A whose key surely differs from the keys of all rows of B."""
    check_tables(semantics, (A, B))
    return not_in_of(semantics, A, B)


def distinct(semantics, A):
    """Return each row of A once."""
    check_tables(semantics, (A,))
    return each_once(A)


def total(semantics, A):
    """Return the sum of the second values of A without nulls, 0 or None if there are none."""
    check_tables(semantics, (A,))
    return total_of(semantics, A)
