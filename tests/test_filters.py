import copy
import itertools
import unittest

from queryheld import filters
from queryheld.errors import BadFilter, BadRow, BadSemantics, BadTable
from queryheld.filters import is_filter, truth
from queryheld.tables import all_semantics
from tests.strange import STRANGE, nested

SQL = ("bag", "sum", "count", "unknown", "null")
NONE = SQL[:3] + ("none", "null")
VALUE = SQL[:3] + ("value", "null")

# Filters by their truth for the row (None, 1) with nulls "unknown".
ROW = (None, 1)
WITH_TRUTH = {True: ("null", 0), False: ("null", 1), None: ("less", 0, 5)}


def balanced(leaves):
    """A filter of 2 * leaves - 1 tuples."""
    if leaves == 1:
        return ("same",)
    return ("or", balanced(leaves // 2), balanced(leaves - leaves // 2))


class ExampleTest(unittest.TestCase):
    def test_example(self):
        sql = ("bag", "sum", "count", "unknown", "null")
        found = [
            is_filter(("and", ("same",), ("null", 1))), truth(sql, ("not", ("equal", 0, 3)), (None, 1)),
            truth(sql, ("or", ("less", 0, 5), ("null", 0)), (None, 1)),
            truth(sql[:3] + ("value", "null"), ("less", 0, 0), (None, 1)),
        ]
        self.assertEqual(found, [True, None, True, True])
        with self.assertRaises(BadRow):
            truth(sql, ("same",), (1, 10))

    def test_defined_in_their_file(self):
        for function in (is_filter, truth):
            self.assertEqual(function.__module__, filters.__name__)


class FormTest(unittest.TestCase):
    def test_comparisons(self):
        for word in ("less", "equal"):
            for column, n in itertools.product((0, 1), range(10)):
                self.assertIs(is_filter((word, column, n)), True)
            for column in (-1, 2, 10 ** 5000, True, False, None, "0", (), [], {}):
                self.assertIs(is_filter((word, column, 3)), False)
            for n in (-1, 10, 10 ** 5000, -10 ** 5000, True, False, None, "3", (), [], {}):
                self.assertIs(is_filter((word, 0, n)), False)
            for value in ((word,), (word, 0), (word, 0, 3, 3), (word, ("same",), 3), (word, 0, ("same",))):
                self.assertIs(is_filter(value), False)

    def test_same(self):
        self.assertIs(is_filter(("same",)), True)
        for value in (("same", 0), ("same", ("same",)), "same", ["same"], ("Same",), ("same ",), ()):
            self.assertIs(is_filter(value), False)

    def test_null(self):
        self.assertIs(is_filter(("null", 0)), True)
        self.assertIs(is_filter(("null", 1)), True)
        for value in (("null",), ("null", 0, 0), ("null", 2), ("null", -1), ("null", True), ("null", False),
                      ("null", None), ("null", ("same",)), ("null", [0])):
            self.assertIs(is_filter(value), False)

    def test_connectives(self):
        same = ("same",)
        self.assertIs(is_filter(("not", same)), True)
        self.assertIs(is_filter(("and", same, same)), True)
        self.assertIs(is_filter(("or", same, same)), True)
        for value in (("not",), ("not", same, same), ("and",), ("and", same), ("and", same, same, same),
                      ("or",), ("or", same), ("or", same, same, same), ("not", "same"), ("not", ["same"]),
                      ("and", same, "same"), ("and", ["same"], same), ("or", same, None), ("or", 0, same),
                      ("not", ("less", 0, 10)), ("and", ("null", 2), same), ("or", same, ("equal", True, 0)),
                      ("nor", same, same), ("less", same, same), (same,), (same, same)):
            with self.subTest(value=value):
                self.assertIs(is_filter(value), False)

    def test_number_of_tuples(self):
        self.assertIs(is_filter(nested(("same",), lambda inner: ("not", inner), 19)), True)
        self.assertIs(is_filter(nested(("same",), lambda inner: ("not", inner), 20)), False)
        self.assertIs(is_filter(balanced(10)), True)
        self.assertIs(is_filter(("not", balanced(10))), True)
        self.assertIs(is_filter(balanced(11)), False)
        self.assertIs(is_filter(nested(("same",), lambda inner: ("and", ("null", 0), inner), 9)), True)
        self.assertIs(is_filter(nested(("same",), lambda inner: ("and", inner, ("less", 1, 9)), 10)), False)

    def test_strange_values(self):
        for number, value in enumerate(STRANGE):
            with self.subTest(number=number):
                self.assertIs(is_filter(value), False)
                self.assertIs(is_filter((value,)), value.__class__ is str and value == "same")
                self.assertIs(is_filter(("not", value)), False)
                self.assertIs(is_filter(("and", ("same",), value)), False)
                self.assertIs(is_filter(("or", value, ("same",))), False)
                self.assertIs(is_filter(("null", value)), value.__class__ is int and value in (0, 1))
                self.assertIs(is_filter((value, 0)), False)
                self.assertIs(is_filter((value, 0, 0)), False)

    def test_arguments_are_not_modified(self):
        value = ["not", ["same"], {"a": [1]}]
        before = copy.deepcopy(value)
        is_filter(value)
        is_filter(("not", value))
        self.assertEqual(value, before)


class TruthTest(unittest.TestCase):
    def test_integers_under_all_semantics(self):
        for semantics in all_semantics():
            for row in ((0, 0), (3, 4), (4, 3), (9, 9)):
                for column in (0, 1):
                    for n in (0, 3, 4, 9):
                        self.assertIs(truth(semantics, ("less", column, n), row), row[column] < n)
                        self.assertIs(truth(semantics, ("equal", column, n), row), row[column] == n)
                    self.assertIs(truth(semantics, ("null", column), row), False)
                self.assertIs(truth(semantics, ("same",), row), row[0] == row[1])

    def test_null_is_unknown(self):
        for n in range(10):
            for word in ("less", "equal"):
                self.assertIsNone(truth(SQL, (word, 0, n), (None, 1)))
                self.assertIsNone(truth(SQL, (word, 1, n), (1, None)))
                self.assertIn(truth(SQL, (word, 1, n), (None, 1)), (True, False))
                self.assertIn(truth(SQL, (word, 0, n), (1, None)), (True, False))
        for row in ((None, 1), (1, None), (None, None)):
            self.assertIsNone(truth(SQL, ("same",), row))

    def test_null_is_a_value(self):
        for n in range(10):
            self.assertIs(truth(VALUE, ("less", 0, n), (None, 1)), True)
            self.assertIs(truth(VALUE, ("less", 1, n), (1, None)), True)
            self.assertIs(truth(VALUE, ("equal", 0, n), (None, 1)), False)
            self.assertIs(truth(VALUE, ("equal", 1, n), (1, None)), False)
        self.assertIs(truth(VALUE, ("same",), (None, None)), True)
        self.assertIs(truth(VALUE, ("same",), (None, 0)), False)
        self.assertIs(truth(VALUE, ("same",), (0, None)), False)

    def test_null_is_seen_by_null(self):
        for semantics in (SQL, VALUE):
            for row in ((None, 1), (1, None), (None, None), (0, 0)):
                for column in (0, 1):
                    self.assertIs(truth(semantics, ("null", column), row), row[column] is None)

    def test_not(self):
        for one, expected in ((True, False), (False, True), (None, None)):
            self.assertIs(truth(SQL, WITH_TRUTH[one], ROW), one)
            self.assertIs(truth(SQL, ("not", WITH_TRUTH[one]), ROW), expected)

    def test_and(self):
        for one, other, expected in (
            (True, True, True), (True, False, False), (True, None, None),
            (False, True, False), (False, False, False), (False, None, False),
            (None, True, None), (None, False, False), (None, None, None),
        ):
            with self.subTest(one=one, other=other):
                self.assertIs(truth(SQL, ("and", WITH_TRUTH[one], WITH_TRUTH[other]), ROW), expected)

    def test_or(self):
        for one, other, expected in (
            (True, True, True), (True, False, True), (True, None, True),
            (False, True, True), (False, False, False), (False, None, None),
            (None, True, True), (None, False, None), (None, None, None),
        ):
            with self.subTest(one=one, other=other):
                self.assertIs(truth(SQL, ("or", WITH_TRUTH[one], WITH_TRUTH[other]), ROW), expected)

    def test_nested(self):
        between = ("and", ("not", ("less", 0, 3)), ("less", 0, 6))
        for key in range(10):
            self.assertIs(truth(NONE, between, (key, 0)), 3 <= key < 6)
        self.assertIsNone(truth(SQL, between, (None, 0)))
        self.assertIs(truth(VALUE, between, (None, 0)), False)
        self.assertIs(truth(SQL, ("not", ("and", between, ("null", 1))), (None, 0)), True)

    def test_twenty_tuples(self):
        deepest = nested(("equal", 1, 9), lambda inner: ("not", inner), 19)
        self.assertIs(truth(SQL, deepest, (0, 9)), False)
        self.assertIs(truth(SQL, deepest, (0, 8)), True)
        self.assertIsNone(truth(SQL, deepest, (0, None)))
        with self.assertRaises(BadFilter):
            truth(SQL, ("not", deepest), (0, 9))


class WrongInputTest(unittest.TestCase):
    def test_bad_rows(self):
        for row in ((), (0,), (0, 0, 0), [0, 0], {0: 0, 1: 0}, "00", ((0, 0),), (0, 10), (10, 0), (-1, 0), (0, -1),
                    (True, 0), (0, False), ("0", 0), (0, []), ({}, 0), ((), ()), (0, 10 ** 5000), BadTable(0)):
            for semantics in (SQL, NONE, VALUE):
                with self.subTest(row=row), self.assertRaises(BadRow):
                    truth(semantics, ("same",), row)

    def test_strange_rows(self):
        for value in STRANGE:
            with self.assertRaises(BadRow):
                truth(SQL, ("null", 0), value)

    def test_null_under_each_kind_of_nulls(self):
        for semantics in all_semantics():
            for row in ((None, 0), (0, None), (None, None)):
                with self.subTest(semantics=semantics, row=row):
                    if semantics[3] == "none":
                        with self.assertRaises(BadRow):
                            truth(semantics, ("null", 0), row)
                    else:
                        self.assertIs(truth(semantics, ("null", 0), row), row[0] is None)

    def test_bad_filters(self):
        for value in STRANGE + (("less", 0, 10), ("less", 2, 0), ("less", True, 0), ("not", ["same"]), ["same"]):
            with self.assertRaises(BadFilter):
                truth(SQL, value, (0, 0))

    def test_bad_semantics(self):
        for value in STRANGE + (SQL[:4], SQL + ("null",), list(SQL)):
            with self.assertRaises(BadSemantics):
                truth(value, ("same",), (0, 0))

    def test_first_invalid_argument_decides(self):
        with self.assertRaises(BadSemantics):
            truth(SQL[:4], ("less", 0, 10), (0, 10))
        with self.assertRaises(BadSemantics):
            truth(SQL[:4], ("same",), (0, 10))
        with self.assertRaises(BadSemantics):
            truth(SQL[:4], ("less", 0, 10), (0, 0))
        with self.assertRaises(BadFilter):
            truth(SQL, ("less", 0, 10), (0, 10))
        with self.assertRaises(BadFilter):
            truth(NONE, (), (None, 0))


if __name__ == "__main__":
    unittest.main()
