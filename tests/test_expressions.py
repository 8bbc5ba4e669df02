import itertools
import unittest

from queryheld import expressions
from queryheld.algebra import difference, intersection, select, union
from queryheld.errors import BadCase, BadExpression, BadFilter, BadSemantics, BadTable
from queryheld.expressions import count_at, equal_for_all, evaluate, is_expression, least_difference
from queryheld.tables import all_semantics
from tests.reference import FILTERS, ROWS, tables_under
from tests.strange import STRANGE, nested

SQL = ("bag", "sum", "count", "unknown", "null")
SET = ("set",) + SQL[1:]
NONE = SQL[:3] + ("none", "null")
VALUE = SQL[:3] + ("value", "null")
MAXIMUM = ("bag", "maximum") + SQL[2:]
KIND = ("bag", "sum", "kind", "none", "null")

A = ("table", 0)
B = ("table", 1)
P = ("p",)
Q = ("q",)
R = (0, 0)
S = (0, 1)
SAME = ("same",)

NOTHING = ("difference", A, A)


def balanced(leaf, leaves):
    """An expression of 2 * leaves - 1 tuples."""
    if leaves == 1:
        return leaf
    return ("union", balanced(leaf, leaves // 2), balanced(leaf, leaves - leaves // 2))


def filtered(expression, times):
    return nested(expression, lambda inner: ("filter", P, inner), times)


def nots(times):
    return nested(P, lambda inner: ("not", inner), times)


def truths(semantics):
    return (True, False, None) if semantics[3] == "unknown" else (True, False)


def cases(semantics, most):
    """All cases with counts up to most, in the order of the document, sorted."""
    order = (True, False, None)
    found = itertools.product(range(most + 1), range(most + 1), truths(semantics), truths(semantics))
    return sorted(found, key=lambda case: (case[0] + case[1], case[0], order.index(case[2]), order.index(case[3])))


EXPRESSIONS = (
    A,
    B,
    ("union", A, B),
    ("intersection", A, B),
    ("difference", A, B),
    ("difference", B, A),
    NOTHING,
    ("union", A, A),
    ("union", ("filter", P, A), ("filter", ("not", P), A)),
    ("difference", A, ("difference", A, B)),
    ("difference", ("union", A, B), B),
    ("intersection", ("union", A, A), ("union", B, ("union", B, B))),
    ("filter", ("or", P, Q), ("union", A, B)),
    ("union", ("filter", P, A), ("filter", Q, A)),
    ("intersection", ("filter", P, A), ("filter", Q, A)),
    ("filter", ("and", P, Q), A),
    ("difference", ("union", A, A), ("filter", ("not", Q), ("union", B, ("union", B, B)))),
    ("difference", A, ("union", ("union", B, B), ("union", B, B))),
    ("difference", ("difference", A, B), B),
    ("difference", A, ("filter", Q, A)),
    ("filter", ("not", Q), A),
)


class ExampleTest(unittest.TestCase):
    def test_example(self):
        sql = ("bag", "sum", "count", "unknown", "null")
        one, other = ("table", 0), ("table", 1)
        split = ("union", ("filter", ("p",), one), ("filter", ("not", ("p",)), one))
        self.assertEqual(
            [is_expression(split), count_at(sql, split, (3, 0, None, True)), least_difference(sql, split, one),
             equal_for_all(sql, ("intersection", one, other), ("difference", one, ("difference", one, other)))],
            [True, 0, (1, 0, None, True), True],
        )
        self.assertEqual(evaluate(sql, split, ((None, 1), (4, 2)), (), ("less", 0, 9), ("same",)), ((4, 2),))
        with self.assertRaises(BadExpression) as caught:
            equal_for_all(sql, one, ("table", 2))
        self.assertEqual(caught.exception.index, 1)

    def test_defined_in_their_file(self):
        for function in (is_expression, evaluate, count_at, equal_for_all, least_difference):
            self.assertEqual(function.__module__, expressions.__name__)


class FormTest(unittest.TestCase):
    def test_tables(self):
        self.assertIs(is_expression(A), True)
        self.assertIs(is_expression(B), True)
        for place in (-1, 2, 10 ** 5000, True, False, None, "0", (), [], {}, A):
            self.assertIs(is_expression(("table", place)), False)
        for value in (("table",), ("table", 0, 0), ["table", 0], "table", ("Table", 0), (A,), (), P, Q, SAME):
            self.assertIs(is_expression(value), False)

    def test_operations(self):
        for word in ("union", "intersection", "difference"):
            self.assertIs(is_expression((word, A, B)), True)
            for value in ((word,), (word, A), (word, A, B, B), (word, A, P), (word, P, A), (word, A, 0), (word, 0, 1),
                          (word, A, ["table", 0]), (word, ("table", 2), B), (word, A, ("table", True)), [word, A, B]):
                with self.subTest(value=value):
                    self.assertIs(is_expression(value), False)
        for word in ("and", "or", "not", "select", "join", "semijoin", "Union", ""):
            self.assertIs(is_expression((word, A, B)), False)

    def test_conditions(self):
        for condition in (P, Q, ("not", P), ("and", P, Q), ("or", Q, Q), ("not", ("and", P, ("or", Q, ("not", P))))):
            self.assertIs(is_expression(("filter", condition, A)), True)
            self.assertIs(is_expression(condition), False)
        for condition in (("r",), ("p", "p"), ("p", 0), "p", ["p"], (), ("not",), ("not", P, P), ("and", P),
                          ("and", P, Q, P), ("or", P), ("or", P, A), ("not", A), A, SAME, ("null", 0), ("less", 0, 1),
                          ("not", SAME), ("and", P, "q"), None, True):
            with self.subTest(condition=condition):
                self.assertIs(is_expression(("filter", condition, A)), False)
        for value in (("filter",), ("filter", P), ("filter", A), ("filter", A, P), ("filter", P, P), ("filter", A, A),
                      ("filter", P, A, A), ("filter", P, Q, A), ("filter", P, ("table", 2))):
            with self.subTest(value=value):
                self.assertIs(is_expression(value), False)

    def test_number_of_leaves(self):
        for leaf in (A, B):
            self.assertIs(is_expression(balanced(leaf, 6)), True)
            self.assertIs(is_expression(balanced(leaf, 7)), False)
            self.assertIs(is_expression(nested(leaf, lambda inner: ("difference", inner, A), 5)), True)
            self.assertIs(is_expression(nested(leaf, lambda inner: ("difference", inner, B), 6)), False)
            self.assertIs(is_expression(nested(leaf, lambda inner: ("intersection", A, inner), 5)), True)
            self.assertIs(is_expression(nested(leaf, lambda inner: ("intersection", B, inner), 6)), False)

    def test_number_of_tuples(self):
        self.assertIs(is_expression(filtered(A, 14)), True)
        self.assertIs(is_expression(filtered(A, 15)), False)
        self.assertIs(is_expression(("filter", nots(27), A)), True)
        self.assertIs(is_expression(("filter", nots(28), A)), False)
        self.assertIs(is_expression(("filter", ("and", nots(13), nots(12)), A)), True)
        self.assertIs(is_expression(("filter", ("and", nots(13), nots(13)), A)), False)
        # 11 tuples for six leaves, 2 for each filter, and the conditions' own.
        self.assertIs(is_expression(filtered(("filter", nots(1), balanced(B, 6)), 8)), True)
        self.assertIs(is_expression(filtered(("filter", nots(2), balanced(B, 6)), 8)), False)

    def test_strange_values(self):
        for number, value in enumerate(STRANGE):
            with self.subTest(number=number):
                self.assertIs(is_expression(value), False)
                self.assertIs(is_expression((value,)), False)
                self.assertIs(is_expression(("table", value)), value.__class__ is int and value in (0, 1))
                self.assertIs(is_expression(("union", A, value)), False)
                self.assertIs(is_expression(("union", value, A)), False)
                self.assertIs(is_expression(("filter", value, A)), False)
                self.assertIs(is_expression(("filter", P, value)), False)
                self.assertIs(is_expression(("filter", ("not", value), A)), False)
                self.assertIs(is_expression((value, A, B)), False)
        for wrap in (lambda inner: ("union", inner, inner), lambda inner: ("filter", P, inner)):
            self.assertIs(is_expression(nested(A, wrap, 100000)), False)
        deep = nested(P, lambda inner: ("and", inner, inner), 100000)
        self.assertIs(is_expression(("filter", deep, A)), False)


class EvaluateTest(unittest.TestCase):
    def by_algebra(self, semantics, expression, a, b, p, q):
        """The value by the operations on tables, for values of at most twelve rows on the way."""
        word = expression[0]
        if word == "table":
            return (a, b)[expression[1]]
        if word == "filter":
            filter_ = self.filter_of(expression[1], p, q)
            return select(semantics, self.by_algebra(semantics, expression[2], a, b, p, q), filter_)
        parts = [self.by_algebra(semantics, part, a, b, p, q) for part in expression[1:]]
        return {"union": union, "intersection": intersection, "difference": difference}[word](semantics, *parts)

    def filter_of(self, condition, p, q):
        if condition in (P, Q):
            return p if condition == P else q
        return (condition[0],) + tuple(self.filter_of(part, p, q) for part in condition[1:])

    def test_agrees_with_the_operations(self):
        for semantics in all_semantics():
            tables = tables_under(semantics, ROWS[1::2], 2)
            for expression in EXPRESSIONS:
                for a, b, (p, q) in zip(tables, tables[3:] + tables[:3], itertools.permutations(FILTERS, 2)):
                    with self.subTest(semantics=semantics, expression=expression, a=a, b=b):
                        self.assertEqual(evaluate(semantics, expression, a, b, p, q),
                                         self.by_algebra(semantics, expression, a, b, p, q))

    def test_tables(self):
        for semantics in all_semantics():
            for a, b in (((R,), (S,)), ((), (S,)), ((R,), ()), ((), ())):
                self.assertEqual(evaluate(semantics, A, a, b, SAME, SAME), a)
                self.assertEqual(evaluate(semantics, B, a, b, SAME, SAME), b)

    def test_filters_p_and_q(self):
        table = ((0, 0), (0, 5), (3, 3), (3, 5))
        less = ("less", 0, 2)
        for condition, expected in (
            (P, ((0, 0), (0, 5))), (Q, ((0, 0), (3, 3))), (("not", P), ((3, 3), (3, 5))),
            (("and", P, Q), ((0, 0),)), (("or", P, Q), table[:3]), (("and", Q, ("not", P)), ((3, 3),)),
        ):
            for semantics in all_semantics():
                self.assertEqual(evaluate(semantics, ("filter", condition, A), table, (), less, SAME), expected)

    def test_unknown_rows_are_left_out(self):
        table = ((None, 0), (0, 0), (1, 0))
        less = ("less", 0, 1)
        self.assertEqual(evaluate(SQL, ("filter", P, A), table, (), less, SAME), ((0, 0),))
        self.assertEqual(evaluate(SQL, ("filter", ("not", P), A), table, (), less, SAME), ((1, 0),))
        self.assertEqual(evaluate(SQL, ("filter", ("or", P, ("not", P)), A), table, (), less, SAME), table[1:])
        self.assertEqual(evaluate(SQL, ("filter", ("or", P, Q), A), table, (), less, ("null", 0)), table[:2])
        self.assertEqual(evaluate(VALUE, ("filter", P, A), table, (), less, SAME), table[:2])

    def test_greatest_sizes(self):
        twelve = (R,) * 12
        self.assertEqual(evaluate(SQL, balanced(A, 6), twelve, (), SAME, SAME), (R,) * 72)
        self.assertEqual(evaluate(MAXIMUM, balanced(A, 6), twelve, (), SAME, SAME), twelve)
        self.assertEqual(evaluate(SQL, balanced(A, 6), (R, S), (), SAME, SAME), (R,) * 6 + (S,) * 6)
        self.assertEqual(evaluate(SQL, filtered(A, 14), (R, S), (), SAME, SAME), (R,))
        longest = nested(SAME, lambda inner: ("not", inner), 19)
        # The filter that is made of p is longer than a filter can be.
        self.assertEqual(evaluate(SQL, ("filter", nots(27), A), (R, S), (), longest, SAME), (R,))
        self.assertEqual(evaluate(SQL, ("filter", nots(26), A), (R, S), (), longest, SAME), (S,))

    def test_ascending(self):
        value = evaluate(SQL, ("union", A, B), ((0, None), (2, 2)), ((None, 3), (0, 0)), SAME, SAME)
        self.assertEqual(value, ((None, 3), (0, None), (0, 0), (2, 2)))

    def assert_bad(self, error, index, *arguments):
        with self.assertRaises(error) as caught:
            evaluate(*arguments)
        self.assertEqual(getattr(caught.exception, "index", None), index)

    def test_wrong_inputs(self):
        for value in STRANGE:
            self.assert_bad(BadSemantics, None, value, A, (), (), SAME, SAME)
            self.assert_bad(BadExpression, 0, SQL, value, (), (), SAME, SAME)
            self.assert_bad(BadTable, 0, SQL, A, value, (), SAME, SAME)
            self.assert_bad(BadTable, 1, SQL, A, (), value, SAME, SAME)
            self.assert_bad(BadFilter, None, SQL, A, (), (), value, SAME)
            self.assert_bad(BadFilter, None, SQL, A, (), (), SAME, value)
        self.assert_bad(BadTable, 1, NONE, A, (), ((None, 0),), SAME, SAME)
        self.assert_bad(BadTable, 0, SET, B, (R, R), (), SAME, SAME)
        self.assert_bad(BadFilter, None, SQL, A, (), (), P, SAME)

    def test_first_invalid_argument_decides(self):
        self.assert_bad(BadSemantics, None, SQL[:4], P, 7, 7, 7, 7)
        self.assert_bad(BadExpression, 0, SQL, P, 7, 7, 7, 7)
        self.assert_bad(BadTable, 0, SQL, A, 7, 7, 7, 7)
        self.assert_bad(BadTable, 1, SQL, A, (), 7, 7, 7)
        self.assert_bad(BadFilter, None, SQL, A, (), (), 7, 7)


class CountTest(unittest.TestCase):
    def test_operations(self):
        words = ("union", "intersection", "difference")
        for semantics in all_semantics():
            for a, b in itertools.product(range(2 if semantics[0] == "set" else 5), repeat=2):
                found = [count_at(semantics, (word, A, B), (a, b, True, True)) for word in words]
                if semantics[0] == "set":
                    self.assertEqual(found, [int(a == 1 or b == 1), int(a == b == 1), int(a == 1 and b == 0)])
                else:
                    more = a + b if semantics[1] == "sum" else max(a, b)
                    less = max(0, a - b) if semantics[2] == "count" else (0 if b else a)
                    self.assertEqual(found, [more, min(a, b), less])

    def test_conditions(self):
        for semantics in all_semantics():
            for p, q in itertools.product(truths(semantics), repeat=2):
                for condition, expected in (
                    (P, p is True), (Q, q is True), (("not", P), p is False), (("not", Q), q is False),
                    (("and", P, Q), p is True and q is True), (("or", P, Q), p is True or q is True),
                    (("not", ("and", P, Q)), p is False or q is False),
                    (("not", ("or", P, Q)), p is False and q is False),
                ):
                    with self.subTest(semantics=semantics, condition=condition, p=p, q=q):
                        found = count_at(semantics, ("filter", condition, A), (1, 0, p, q))
                        self.assertEqual(found, int(expected))

    def test_agrees_with_evaluate(self):
        filters = {True: ("null", 0), False: ("null", 1), None: ("less", 0, 5)}
        row = (None, 1)
        for semantics in (SQL, MAXIMUM, SET, SQL[:2] + ("kind",) + SQL[3:]):
            for a, b, p, q in cases(semantics, 1 if semantics == SET else 3):
                for expression in EXPRESSIONS:
                    value = evaluate(semantics, expression, (row,) * a, (row,) * b, filters[p], filters[q])
                    self.assertEqual(value, (row,) * count_at(semantics, expression, (a, b, p, q)))

    def test_greatest_counts(self):
        self.assertEqual(count_at(SQL, A, (99, 0, True, True)), 99)
        self.assertEqual(count_at(SQL, ("union", A, B), (99, 99, True, True)), 198)
        self.assertEqual(count_at(SQL, balanced(A, 6), (99, 0, True, True)), 594)
        self.assertEqual(count_at(SET, balanced(A, 6), (1, 1, True, True)), 1)
        self.assertEqual(count_at(SQL, ("filter", nots(27), A), (7, 0, False, True)), 7)
        self.assertEqual(count_at(SQL, ("filter", nots(27), A), (7, 0, True, True)), 0)

    def test_allowed_cases(self):
        for semantics in all_semantics():
            greatest = 1 if semantics[0] == "set" else 99
            for counts in ((0, 0), (greatest, 0), (0, greatest), (greatest, greatest)):
                for p, q in itertools.product(truths(semantics), repeat=2):
                    self.assertEqual(count_at(semantics, A, counts + (p, q)), counts[0])
                    self.assertEqual(count_at(semantics, B, counts + (p, q)), counts[1])

    def test_bad_counts(self):
        for semantics in all_semantics():
            for count in (2 if semantics[0] == "set" else 100, -1, 10 ** 5000, True, False, None, "1", (), [], {}):
                for case in ((count, 0, True, True), (0, count, True, True)):
                    with self.assertRaises(BadCase):
                        count_at(semantics, A, case)

    def test_bad_truths(self):
        for semantics in all_semantics():
            wrong = (0, 1, "True", (), [], {}, "") + (() if semantics[3] == "unknown" else (None,))
            for value in wrong:
                for case in ((0, 0, value, True), (0, 0, True, value)):
                    with self.assertRaises(BadCase):
                        count_at(semantics, A, case)

    def test_wrong_inputs(self):
        for value in STRANGE + ((), (0, 0), (0, 0, True), (0, 0, True, True, True), [0, 0, True, True]):
            with self.assertRaises(BadCase):
                count_at(SQL, A, value)
            with self.assertRaises(BadSemantics):
                count_at(value, A, (0, 0, True, True))
            with self.assertRaises(BadExpression) as caught:
                count_at(SQL, value, (0, 0, True, True))
            self.assertEqual(caught.exception.index, 0)

    def test_first_invalid_argument_decides(self):
        with self.assertRaises(BadSemantics):
            count_at(SQL[:4], P, 7)
        with self.assertRaises(BadSemantics):
            count_at(SQL[:4], A, 7)
        with self.assertRaises(BadExpression):
            count_at(SQL, P, 7)


class LeastDifferenceTest(unittest.TestCase):
    def test_order_of_counts(self):
        # a + b decides first, then a.
        self.assertEqual(least_difference(SQL, A, B), (0, 1, True, True))
        self.assertEqual(least_difference(SQL, A, NOTHING), (1, 0, True, True))
        self.assertEqual(least_difference(SQL, ("union", A, B), ("union", A, A)), (0, 1, True, True))
        self.assertEqual(least_difference(SQL, ("intersection", A, B), NOTHING), (1, 1, True, True))
        twice = ("union", A, A)
        self.assertEqual(least_difference(SQL, ("difference", A, B), ("difference", twice, B)), (1, 0, True, True))
        self.assertEqual(least_difference(SQL, ("intersection", twice, B), ("intersection", A, B)), (1, 2, True, True))
        self.assertEqual(least_difference(KIND, ("intersection", A, B), ("difference", A, ("difference", A, B))),
                         (2, 1, True, True))

    def test_order_of_truths(self):
        for expression, expected in (
            (("filter", P, A), (1, 0, False, True)), (("filter", Q, A), (1, 0, True, False)),
            (("filter", ("or", P, Q), A), (1, 0, False, False)), (("filter", ("and", P, Q), A), (1, 0, True, False)),
            (("filter", ("not", P), A), (1, 0, True, True)),
        ):
            for semantics in all_semantics():
                self.assertEqual(least_difference(semantics, expression, A), expected)
        for condition, expected in (
            (("or", P, ("not", P)), (1, 0, None, True)), (("or", Q, ("not", Q)), (1, 0, True, None)),
            (("or", ("or", P, ("not", P)), Q), (1, 0, None, False)),
        ):
            for semantics in all_semantics():
                found = least_difference(semantics, ("filter", condition, A), A)
                self.assertEqual(found, expected if semantics[3] == "unknown" else None)

    def test_counts_decide_before_truths(self):
        false_at_first = ("filter", ("not", P), A)
        for other, expected in (
            (("intersection", A, B), (1, 0, False, True)),
            (("filter", P, ("intersection", A, B)), (1, 0, False, True)),
            (("filter", P, B), (0, 1, True, True)),
        ):
            self.assertEqual(least_difference(NONE, ("union", false_at_first, other), NOTHING), expected)
        either = ("union", ("filter", ("not", P), B), ("filter", P, A))
        self.assertEqual(least_difference(NONE, either, NOTHING), (0, 1, False, True))

    def test_set(self):
        for semantics in all_semantics():
            if semantics[0] == "set":
                self.assertIsNone(least_difference(semantics, ("union", A, A), A))
                self.assertIsNone(least_difference(semantics, ("difference", ("union", A, B), B), ("difference", A, B)))
                self.assertEqual(least_difference(semantics, ("difference", ("union", A, B), B), A), (1, 1, True, True))

    def test_far_differences(self):
        # It is more than nothing only if a is more than 4 * b, and b more than 0.
        four = ("union", ("union", B, B), ("union", B, B))
        self.assertEqual(least_difference(SQL, ("intersection", B, ("difference", A, four)), NOTHING),
                         (5, 1, True, True))
        self.assertEqual(least_difference(SQL, NOTHING, ("intersection", B, ("difference", A, four))),
                         (5, 1, True, True))
        # More than nothing only if 2 * a is more than 3 * b.
        left = ("difference", ("union", A, A), ("union", B, ("union", B, B)))
        self.assertEqual(least_difference(SQL, ("intersection", left, B), NOTHING), (2, 1, True, True))

    def test_agrees_with_all_cases(self):
        for semantics in all_semantics():
            if semantics[4] == "zero":
                continue
            listed = cases(semantics, 1 if semantics[0] == "set" else 5)
            counts = [[count_at(semantics, expression, case) for case in listed] for expression in EXPRESSIONS]
            for left, right in itertools.product(range(len(EXPRESSIONS)), repeat=2):
                differing = [case for case, one, other in zip(listed, counts[left], counts[right]) if one != other]
                expected = differing[0] if differing else None
                with self.subTest(semantics=semantics, left=EXPRESSIONS[left], right=EXPRESSIONS[right]):
                    sides = EXPRESSIONS[left], EXPRESSIONS[right]
                    if expected is not None or (left + right) % 5 == 0:
                        self.assertEqual(least_difference(semantics, *sides), expected)
                        self.assertIs(equal_for_all(semantics, *sides), expected is None)

    def test_greatest_expressions(self):
        six = balanced(A, 6)
        for semantics in (SQL, SET, NONE):
            self.assertIs(equal_for_all(semantics, filtered(("filter", nots(1), six), 8),
                                        ("filter", ("and", P, ("not", P)), A)), True)
        self.assertEqual(least_difference(SQL, filtered(A, 14), ("filter", nots(27), A)), (1, 0, True, True))
        self.assertIs(equal_for_all(SQL, filtered(A, 14), ("filter", nots(26), A)), True)


class EqualForAllTest(unittest.TestCase):
    def test_known_identities(self):
        for semantics in all_semantics():
            duplicates, sums, differences, nulls, _ = semantics
            bag, most, count = duplicates == "bag", sums == "maximum", differences == "count"
            known = nulls != "unknown"
            for left, right, expected in (
                (("union", A, A), A, not bag or most),
                (("union", A, ("intersection", A, B)), A, not bag or most),
                (("intersection", A, ("union", A, B)), A, True),
                (("intersection", A, B), ("difference", A, ("difference", A, B)), not bag or count),
                (("difference", ("union", A, B), B), ("difference", A, B), not bag or not count or most),
                (("difference", ("union", A, B), B), A, bag and not most and count),
                (("filter", ("or", P, Q), A), ("union", ("filter", P, A), ("filter", Q, A)), not bag or most),
                (("filter", ("and", P, Q), A), ("intersection", ("filter", P, A), ("filter", Q, A)), True),
                (("filter", ("not", P), A), ("difference", A, ("filter", P, A)), known),
                (("filter", ("or", P, ("not", P)), A), A, known),
                (("union", A, B), ("union", B, A), True),
                (("filter", P, ("union", A, B)), ("union", ("filter", P, A), ("filter", P, B)), True),
                (("filter", ("not", ("not", P)), A), ("filter", P, A), True),
                (("filter", ("not", ("and", P, Q)), A), ("filter", ("or", ("not", Q), ("not", P)), A), True),
            ):
                with self.subTest(semantics=semantics, left=left, right=right):
                    self.assertIs(equal_for_all(semantics, left, right), expected)
                    self.assertIs(equal_for_all(semantics, right, left), expected)
                    self.assertIs(least_difference(semantics, left, right) is None, expected)

    def test_wrong_inputs(self):
        for function in (equal_for_all, least_difference):
            for value in STRANGE + (P, ("table", 2), ("union", A), balanced(A, 7)):
                with self.assertRaises(BadSemantics):
                    function(value, A, B)
                for index, arguments in ((0, (value, A)), (1, (A, value)), (0, (value, value))):
                    with self.assertRaises(BadExpression) as caught:
                        function(SQL, *arguments)
                    self.assertEqual(caught.exception.index, index)
            for sides in ((P, P), (A, P), (P, A)):
                with self.assertRaises(BadSemantics):
                    function(SQL[:4], *sides)


if __name__ == "__main__":
    unittest.main()
