"""Expressions of two tables, and whether they are equal for all tables and filters."""

from queryheld.errors import BadCase, BadExpression
from queryheld.filters import CONNECTIVES, check_filter, connected, truth_of
from queryheld.forms import tuples_of
from queryheld.operations import combined_count, each_once
from queryheld.tables import DUPLICATES, NULLS, check_semantics, check_tables, is_integer_to

MOST_LEAVES = 6
MOST_TUPLES = 30

# The greatest count in a case with "bag".
GREATEST_COUNT = 99

CASE_LENGTH = 4


def is_expression(value):
    """Return whether value is an expression."""
    tuples = tuples_of(value, "expression", MOST_TUPLES)
    return tuples is not None and _leaves_among(tuples) <= MOST_LEAVES


def _leaves_among(tuples):
    return len([part for part in tuples if part[0] == "table"])


def _check_expressions(values):
    for index, value in enumerate(values):
        if not is_expression(value):
            raise BadExpression(index)


def evaluate(semantics, expression, A, B, p, q):
    """Return the rows of an expression for tables A and B and filters p and q."""
    check_semantics(semantics)
    _check_expressions((expression,))
    check_tables(semantics, (A, B))
    check_filter(p)
    check_filter(q)
    found = []
    for row in each_once(A + B):
        case = (A.count(row), B.count(row), truth_of(semantics, p, row), truth_of(semantics, q, row))
        found.extend([row] * _count_of(semantics, expression, case))
    return tuple(found)


def count_at(semantics, expression, case):
    """Return how often a row occurs in an expression, in a case (a, b, p, q)."""
    check_semantics(semantics)
    _check_expressions((expression,))
    if not _is_case(semantics, case):
        raise BadCase("not a case")
    return _count_of(semantics, expression, case)


def _is_case(semantics, value):
    if not isinstance(value, tuple) or len(value) != CASE_LENGTH:
        return False
    greatest = 1 if semantics[DUPLICATES] == "set" else GREATEST_COUNT
    if not all([is_integer_to(count, greatest) for count in value[:2]]):
        return False
    return all([_is_truth(semantics, part) for part in value[2:]])


def _is_truth(semantics, value):
    if value is None:
        return semantics[NULLS] == "unknown"
    return isinstance(value, bool)


def _count_of(semantics, expression, case):
    # A row's count depends on nothing but its own case: no operation mixes different rows.
    word = expression[0]
    if word == "table":
        return case[expression[1]]
    if word == "filter":
        kept = _condition_truth(expression[1], case) is True
        return _count_of(semantics, expression[2], case) if kept else 0
    a = _count_of(semantics, expression[1], case)
    b = _count_of(semantics, expression[2], case)
    return combined_count(semantics, word, a, b)


def _condition_truth(condition, case):
    word = condition[0]
    if word in CONNECTIVES:
        return connected(word, [_condition_truth(part, case) for part in condition[1:]])
    return case[2] if word == "p" else case[3]


def equal_for_all(semantics, left, right):
    """Return whether two expressions are equal for all tables and all filters."""
    return least_difference(semantics, left, right) is None


def least_difference(semantics, left, right):
    """Return the first case in which two expressions differ, or None if they never do."""
    check_semantics(semantics)
    _check_expressions((left, right))
    for case in _cases(semantics, _greatest_needed(semantics, left, right)):
        if _count_of(semantics, left, case) != _count_of(semantics, right, case):
            return case
    return None


def _greatest_needed(semantics, left, right):
    """Return up to which count of a row two expressions must be compared."""
    if semantics[DUPLICATES] == "set":
        return 1
    return 3 * max([_leaves_among(tuples_of(side, "expression", MOST_TUPLES)) for side in (left, right)])


def _cases(semantics, greatest):
    """Return the list of all cases with counts up to the greatest one, in their order."""
    truths = (True, False, None) if semantics[NULLS] == "unknown" else (True, False)
    return [
        (a, both - a, p, q)
        for both in range(2 * greatest + 1)
        for a in range(max(0, both - greatest), min(both, greatest) + 1)
        for p in truths
        for q in truths
    ]
