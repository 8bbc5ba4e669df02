"""The operations on rows, for any number of them, without looking at the arguments first."""

from queryheld.filters import truth_of
from queryheld.tables import DIFFERENCE, DUPLICATES, EMPTY, NULLS, UNION, row_order


def combined_count(semantics, word, a, b):
    """Return how often a row that occurs a and b times occurs in the union, intersection or difference."""
    count = _count_with_repeats(semantics, word, a, b)
    # With "set", a and b are at most 1, so only a union can count further.
    return min(count, 1) if semantics[DUPLICATES] == "set" else count


def _count_with_repeats(semantics, word, a, b):
    if word == "intersection":
        return min(a, b)
    if word == "union":
        return a + b if semantics[UNION] == "sum" else max(a, b)
    if semantics[DIFFERENCE] == "kind":
        return a if b == 0 else 0
    return max(0, a - b)


def in_order(rows):
    """Return the tuple of rows in ascending order."""
    return tuple(sorted(rows, key=row_order))


def each_once(rows):
    """Return the tuple of the different ones of rows in ascending order."""
    return in_order(list(_counts(rows)))


def _counts(rows):
    """Return a dict that tells for each row how often it occurs."""
    found = {}
    for row in rows:
        found[row] = found.get(row, 0) + 1
    return found


def _result(semantics, rows):
    """Return rows as an operation returns them: with repeated rows only with "bag"."""
    return each_once(rows) if semantics[DUPLICATES] == "set" else in_order(rows)


def _combined(semantics, word, one, other):
    in_one = _counts(one)
    in_other = _counts(other)
    found = []
    for row in each_once(one + other):
        count = combined_count(semantics, word, in_one.get(row, 0), in_other.get(row, 0))
        found.extend([row] * count)
    return tuple(found)


def union_of(semantics, one, other):
    """Return the union of rows."""
    return _combined(semantics, "union", one, other)


def intersection_of(semantics, one, other):
    """Return the intersection of rows."""
    return _combined(semantics, "intersection", one, other)


def difference_of(semantics, one, other):
    """Return the difference of rows."""
    return _combined(semantics, "difference", one, other)


def selection_of(semantics, rows, filter_):
    """Return the rows for which a filter is True."""
    return tuple([row for row in rows if truth_of(semantics, filter_, row) is True])


def projection_of(semantics, rows):
    """Return for each row the row of its key alone."""
    return _result(semantics, [row[:1] for row in rows])


def pairs_of(semantics, rows):
    """Return for each row of three values the row of the first two."""
    return _result(semantics, [row[:2] for row in rows])


def _match(semantics, key, other):
    if key is None and other is None:
        return semantics[NULLS] == "value"
    return key == other


def _surely_differ(semantics, key, other):
    if semantics[NULLS] == "unknown" and (key is None or other is None):
        return False
    return key != other


def _has_partner(semantics, row, others):
    return any([_match(semantics, row[0], other[0]) for other in others])


def join_of(semantics, rows, others):
    """Return the row (k, x, y) for each row (k, x) and each other row (l, y) whose keys match."""
    found = [(*row, other[1]) for row in rows for other in others if _match(semantics, row[0], other[0])]
    return _result(semantics, found)


def semijoin_of(semantics, rows, others):
    """Return the rows whose key matches the key of another row."""
    return tuple([row for row in rows if _has_partner(semantics, row, others)])


def antijoin_of(semantics, rows, others):
    """Return the rows whose key matches no key of another row."""
    return tuple([row for row in rows if not _has_partner(semantics, row, others)])


def not_in_of(semantics, rows, others):
    """Return the rows whose key surely differs from the keys of all other rows."""
    return tuple([
        row for row in rows if all([_surely_differ(semantics, row[0], other[0]) for other in others])
    ])


def total_of(semantics, rows):
    """Return the sum of the second values without nulls, 0 or None if there are none."""
    values = [row[1] for row in rows if row[1] is not None]
    if len(values) == 0 and semantics[EMPTY] == "null":
        return None
    return sum(values)


# The operations that depend on the semantics, by their words in the identities.
OPERATIONS = {
    "union": union_of,
    "intersection": intersection_of,
    "difference": difference_of,
    "select": selection_of,
    "project": projection_of,
    "pairs": pairs_of,
    "join": join_of,
    "semijoin": semijoin_of,
    "antijoin": antijoin_of,
    "not_in": not_in_of,
    "total": total_of,
}
