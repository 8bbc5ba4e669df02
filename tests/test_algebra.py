import itertools
import unittest
from collections import Counter

from queryheld import algebra
from queryheld.algebra import (
    antijoin, difference, distinct, intersection, join, not_in, project, select, semijoin, total, union,
)
from queryheld.errors import BadFilter, BadSemantics, BadTable
from queryheld.tables import all_semantics
from tests.reference import FILTERS, ROWS, Reference, tables_under
from tests.strange import STRANGE, nested

SQL = ("bag", "sum", "count", "unknown", "null")
SET = ("set",) + SQL[1:]
NONE = SQL[:3] + ("none", "null")
VALUE = SQL[:3] + ("value", "null")

OF_ONE_TABLE = (project, distinct, total)
OF_TWO_TABLES = (union, intersection, difference, join, semijoin, antijoin, not_in)

NULL = (None, 0)
R = (0, 0)
S = (0, 1)

# Twelve different rows, ascending.
TWELVE = tuple((key, value) for key in range(4) for value in range(3))


def under(duplicates=None, union=None, difference=None, nulls=None, empty=None):
    """All semantics with the given words."""
    wanted = (duplicates, union, difference, nulls, empty)
    return [semantics for semantics in all_semantics()
            if all(word in (None, part) for word, part in zip(wanted, semantics))]


class ExampleTest(unittest.TestCase):
    def test_example(self):
        sql = ("bag", "sum", "count", "unknown", "null")
        a, b = ((None, 1), (4, 2), (4, 2)), ((4, 2), (9, 0))
        self.assertEqual(
            [union(sql, a, b), intersection(sql, a, b), difference(sql, a, b), select(sql, a, ("null", 0)),
             project(sql, a), join(sql, a, b)],
            [((None, 1), (4, 2), (4, 2), (4, 2), (9, 0)), ((4, 2),), ((None, 1), (4, 2)), ((None, 1),),
             ((None,), (4,), (4,)), ((4, 2, 2), (4, 2, 2))],
        )
        self.assertEqual(
            [semijoin(sql, a, b), antijoin(sql, a, b), not_in(sql, a, b), distinct(sql, a), total(sql, a),
             total(sql, ())],
            [((4, 2), (4, 2)), ((None, 1),), (), ((None, 1), (4, 2)), 5, None],
        )
        with self.assertRaises(BadTable) as caught:
            union(sql, a, (4, 2))
        self.assertEqual(caught.exception.index, 1)

    def test_defined_in_their_file(self):
        for function in OF_ONE_TABLE + OF_TWO_TABLES + (select,):
            self.assertEqual(function.__module__, algebra.__name__)


class UnionTest(unittest.TestCase):
    def test_sum(self):
        for semantics in under("bag", "sum"):
            for a, b in itertools.product(range(5), repeat=2):
                self.assertEqual(union(semantics, (R,) * a, (R,) * b), (R,) * (a + b))

    def test_maximum(self):
        for semantics in under("bag", "maximum"):
            for a, b in itertools.product(range(5), repeat=2):
                self.assertEqual(union(semantics, (R,) * a, (R,) * b), (R,) * max(a, b))

    def test_set(self):
        for semantics in under("set"):
            self.assertEqual(union(semantics, (R,), (R,)), (R,))
            self.assertEqual(union(semantics, (R,), (S,)), (R, S))
            self.assertEqual(union(semantics, (), (R,)), (R,))
            self.assertEqual(union(semantics, (), ()), ())

    def test_order(self):
        for semantics in under(nulls="unknown") + under(nulls="value"):
            self.assertEqual(
                union(semantics, ((0, None), (0, 3), (9, 0)), ((None, None), (None, 9), (0, 0), (5, 5))),
                ((None, None), (None, 9), (0, None), (0, 0), (0, 3), (5, 5), (9, 0)),
            )

    def test_more_than_twelve_rows(self):
        others = tuple((key + 4, value) for key, value in TWELVE)
        for semantics in all_semantics():
            self.assertEqual(union(semantics, others, TWELVE), TWELVE + others)
        self.assertEqual(union(SQL, TWELVE, TWELVE), tuple(row for row in TWELVE for _ in range(2)))
        self.assertEqual(union(SQL, (R,) * 12, (R,) * 12), (R,) * 24)


class IntersectionTest(unittest.TestCase):
    def test_bag(self):
        for semantics in under("bag"):
            for a, b in itertools.product(range(5), repeat=2):
                self.assertEqual(intersection(semantics, (R,) * a, (R,) * b), (R,) * min(a, b))

    def test_set(self):
        for semantics in under("set"):
            self.assertEqual(intersection(semantics, (R, S), (S, (1, 0))), (S,))
            self.assertEqual(intersection(semantics, (R,), (S,)), ())
            self.assertEqual(intersection(semantics, TWELVE, TWELVE), TWELVE)


class DifferenceTest(unittest.TestCase):
    def test_count(self):
        for semantics in under("bag", difference="count"):
            for a, b in itertools.product(range(5), repeat=2):
                self.assertEqual(difference(semantics, (R,) * a, (R,) * b), (R,) * max(0, a - b))

    def test_kind(self):
        for semantics in under("bag", difference="kind"):
            for a, b in itertools.product(range(5), repeat=2):
                self.assertEqual(difference(semantics, (R,) * a, (R,) * b), (R,) * a if b == 0 else ())

    def test_set(self):
        for semantics in under("set"):
            self.assertEqual(difference(semantics, (R, S), (S, (1, 0))), (R,))
            self.assertEqual(difference(semantics, (R, S), ()), (R, S))
            self.assertEqual(difference(semantics, (R,), (R,)), ())
            self.assertEqual(difference(semantics, (), (R,)), ())


class NullsAreTheSameTest(unittest.TestCase):
    def test_rows_with_nulls(self):
        for semantics in under(nulls="unknown") + under(nulls="value"):
            for row in (NULL, (0, None), (None, None)):
                repeated = semantics[:2] == ("bag", "sum")
                self.assertEqual(union(semantics, (row,), (row,)), (row,) * (2 if repeated else 1))
                self.assertEqual(intersection(semantics, (row,), (row,)), (row,))
                self.assertEqual(difference(semantics, (row,), (row,)), ())
                self.assertEqual(difference(semantics, (row,), ()), (row,))
                self.assertEqual(distinct(semantics, (row,)), (row,))

    def test_repeated(self):
        for semantics in (SQL, VALUE):
            self.assertEqual(distinct(semantics, (NULL, NULL)), (NULL,))
            self.assertEqual(difference(semantics, (NULL, NULL), (NULL,)), (NULL,))


class SelectTest(unittest.TestCase):
    def test_only_true_is_kept(self):
        table = ((None, 1), (3, 1), (3, 2), (7, 1))
        self.assertEqual(select(SQL, table, ("less", 0, 5)), ((3, 1), (3, 2)))
        self.assertEqual(select(SQL, table, ("not", ("less", 0, 5))), ((7, 1),))
        self.assertEqual(select(VALUE, table, ("less", 0, 5)), table[:3])
        self.assertEqual(select(SQL, table, ("or", ("null", 0), ("equal", 1, 2))), ((None, 1), (3, 2)))
        self.assertEqual(select(SQL, (), ("same",)), ())

    def test_repeated_rows_are_kept(self):
        for semantics in under("bag"):
            self.assertEqual(select(semantics, (R, R, R, S, S), ("same",)), (R, R, R))
            self.assertEqual(select(semantics, (R,) * 12, ("equal", 1, 0)), (R,) * 12)
        for semantics in under("set"):
            self.assertEqual(select(semantics, (R, S), ("same",)), (R,))

    def test_greatest_filter(self):
        longest = nested(("equal", 1, 1), lambda inner: ("not", inner), 19)
        self.assertEqual(select(SQL, (R, S), longest), (R,))
        with self.assertRaises(BadFilter):
            select(SQL, (R, S), ("not", longest))


class ProjectTest(unittest.TestCase):
    def test_bag(self):
        for semantics in under("bag"):
            self.assertEqual(project(semantics, (R, S, S, (4, 0))), ((0,), (0,), (0,), (4,)))
            self.assertEqual(project(semantics, ()), ())
        self.assertEqual(project(SQL, (NULL, (None, 1), R)), ((None,), (None,), (0,)))

    def test_set(self):
        for semantics in under("set"):
            self.assertEqual(project(semantics, TWELVE), ((0,), (1,), (2,), (3,)))
        self.assertEqual(project(SET, (NULL, (None, 1), R)), ((None,), (0,)))


class JoinTest(unittest.TestCase):
    def test_matching_keys(self):
        for semantics in all_semantics():
            self.assertEqual(
                join(semantics, ((0, 1), (0, 2), (1, 5), (2, 2)), ((0, 3), (0, 4), (2, 9), (3, 0))),
                ((0, 1, 3), (0, 1, 4), (0, 2, 3), (0, 2, 4), (2, 2, 9)),
            )
            self.assertEqual(join(semantics, (), (R,)), ())
            self.assertEqual(join(semantics, (R,), ()), ())

    def test_repeated_rows(self):
        for semantics in under("bag"):
            self.assertEqual(join(semantics, (R, R), (S, S, S)), ((0, 0, 1),) * 6)
            self.assertEqual(join(semantics, (R,) * 12, (R,) * 12), ((0, 0, 0),) * 144)

    def test_ascending(self):
        for semantics in under(nulls="unknown") + under(nulls="value"):
            self.assertEqual(join(semantics, ((0, None), (0, 5)), ((0, None), (0, 1))),
                             ((0, None, None), (0, None, 1), (0, 5, None), (0, 5, 1)))
        self.assertEqual(join(SQL, (R, R), (R, S)), ((0, 0, 0), (0, 0, 0), (0, 0, 1), (0, 0, 1)))

    def test_null_keys(self):
        for semantics in under(nulls="unknown"):
            self.assertEqual(join(semantics, (NULL, R), ((None, 7), S)), ((0, 0, 1),))
        for semantics in under(nulls="value"):
            self.assertEqual(join(semantics, (NULL, R), ((None, 7), S)), ((None, 0, 7), (0, 0, 1)))


class SemijoinTest(unittest.TestCase):
    def test_keys_decide(self):
        for semantics in all_semantics():
            self.assertEqual(semijoin(semantics, TWELVE, ((1, 9), (3, 0), (3, 1))), TWELVE[3:6] + TWELVE[9:])
            self.assertEqual(antijoin(semantics, TWELVE, ((1, 9), (3, 0), (3, 1))), TWELVE[:3] + TWELVE[6:9])
            self.assertEqual(not_in(semantics, TWELVE, ((1, 9), (3, 0), (3, 1))), TWELVE[:3] + TWELVE[6:9])

    def test_empty_tables(self):
        for semantics in all_semantics():
            self.assertEqual(semijoin(semantics, (R, S), ()), ())
            self.assertEqual(antijoin(semantics, (R, S), ()), (R, S))
            self.assertEqual(not_in(semantics, (R, S), ()), (R, S))
            for function in (semijoin, antijoin, not_in):
                self.assertEqual(function(semantics, (), (R,)), ())

    def test_repeated_rows_stay_as_often(self):
        for semantics in under("bag"):
            self.assertEqual(semijoin(semantics, (R, R, (1, 0)), (R, S, S)), (R, R))
            self.assertEqual(antijoin(semantics, (R, R, (1, 0)), ((1, 0), (1, 0))), (R, R))
            self.assertEqual(not_in(semantics, (R, R, (1, 0)), ((1, 0), (1, 0))), (R, R))

    def test_null_is_unknown(self):
        for semantics in under(nulls="unknown"):
            self.assertEqual(semijoin(semantics, (NULL, R), (NULL, R)), (R,))
            self.assertEqual(antijoin(semantics, (NULL, R), (NULL, R)), (NULL,))
            self.assertEqual(antijoin(semantics, (NULL, R), (NULL,)), (NULL, R))
            self.assertEqual(not_in(semantics, (NULL, R), (NULL,)), ())
            self.assertEqual(not_in(semantics, (NULL, R), ((1, 0),)), (R,))
            self.assertEqual(not_in(semantics, (NULL, R), (R,)), ())
            self.assertEqual(not_in(semantics, (NULL, R), ()), (NULL, R))
            # Only keys are compared, not the second values.
            self.assertEqual(not_in(semantics, ((0, None),), ((1, None),)), ((0, None),))
            self.assertEqual(semijoin(semantics, ((0, None),), ((0, None),)), ((0, None),))

    def test_null_is_a_value(self):
        for semantics in under(nulls="value"):
            self.assertEqual(semijoin(semantics, (NULL, R), ((None, 5),)), (NULL,))
            self.assertEqual(antijoin(semantics, (NULL, R), ((None, 5),)), (R,))
            self.assertEqual(not_in(semantics, (NULL, R), ((None, 5),)), (R,))
            self.assertEqual(not_in(semantics, (NULL, R), (S,)), (NULL,))
            self.assertEqual(semijoin(semantics, (NULL, R), (S,)), (R,))


class DistinctTest(unittest.TestCase):
    def test_each_row_once(self):
        for semantics in under("bag"):
            self.assertEqual(distinct(semantics, (R, R, R, S, (1, 0), (1, 0))), (R, S, (1, 0)))
            self.assertEqual(distinct(semantics, (R,) * 12), (R,))
        for semantics in all_semantics():
            self.assertEqual(distinct(semantics, TWELVE), TWELVE)
            self.assertEqual(distinct(semantics, ()), ())


class TotalTest(unittest.TestCase):
    def test_second_values(self):
        for semantics in all_semantics():
            self.assertEqual(total(semantics, ((1, 2), (3, 4), (9, 9))), 15)
            self.assertEqual(total(semantics, (R,)), 0)
            self.assertEqual(total(semantics, TWELVE), 12)
        for semantics in under("bag"):
            self.assertEqual(total(semantics, ((0, 9),) * 12), 108)

    def test_nothing_left(self):
        for semantics in all_semantics():
            expected = 0 if semantics[4] == "zero" else None
            tables = [()]
            if semantics[3] != "none":
                tables += [((0, None),), ((None, None), (0, None), (1, None))]
            for table in tables:
                self.assertIs(total(semantics, table), expected)

    def test_nulls_are_left_out(self):
        for semantics in under(nulls="unknown") + under(nulls="value"):
            self.assertEqual(total(semantics, ((None, 3), (0, None), (1, 4))), 7)
            self.assertEqual(total(semantics, ((0, None), (0, 0))), 0)


class ReferenceTest(unittest.TestCase):
    def test_small_tables(self):
        for semantics in all_semantics():
            reference = Reference(semantics)
            tables = tables_under(semantics, ROWS, 2)
            for a in tables:
                counted = Counter(a)
                self.assertEqual(project(semantics, a), reference.rows(reference.project(counted)))
                self.assertEqual(distinct(semantics, a), reference.rows(reference.distinct(counted)))
                self.assertEqual(total(semantics, a), reference.total(counted))
                for f, test in zip(FILTERS, reference.tests(*FILTERS)):
                    self.assertEqual(select(semantics, a, f), reference.rows(reference.select(counted, test)))
                for b, function in itertools.product(tables[::2], OF_TWO_TABLES):
                    expected = getattr(reference, function.__name__)(counted, Counter(b))
                    self.assertEqual(function(semantics, a, b), reference.rows(expected))


class WrongInputTest(unittest.TestCase):
    def assert_bad_table(self, index, function, *arguments):
        with self.assertRaises(BadTable) as caught:
            function(*arguments)
        self.assertEqual(caught.exception.index, index)

    def test_bad_semantics(self):
        for value in STRANGE + (SQL[:4], SQL + ("null",), list(SQL)):
            for function in OF_ONE_TABLE:
                with self.assertRaises(BadSemantics):
                    function(value, ())
            for function in OF_TWO_TABLES:
                with self.assertRaises(BadSemantics):
                    function(value, (), ())
            with self.assertRaises(BadSemantics):
                select(value, (), ("same",))

    def test_bad_tables(self):
        for value in STRANGE + (R, (S, R), ((0, 10),), ((0, True),), [R], TWELVE + ((9, 9),), (R,) * 13):
            for function in OF_ONE_TABLE:
                self.assert_bad_table(0, function, SQL, value)
            for function in OF_TWO_TABLES:
                self.assert_bad_table(0, function, SQL, value, ())
                self.assert_bad_table(1, function, SQL, (), value)
                self.assert_bad_table(0, function, SQL, value, value)
            self.assert_bad_table(0, select, SQL, value, ("same",))

    def test_tables_under_other_semantics(self):
        for function in OF_TWO_TABLES:
            self.assert_bad_table(1, function, SET, (R,), (R, R))
            self.assert_bad_table(0, function, SET, (R, R), ())
            self.assert_bad_table(1, function, NONE, (R,), (NULL,))
            self.assert_bad_table(0, function, NONE, ((0, None),), (NULL,))
        for function in OF_ONE_TABLE:
            self.assert_bad_table(0, function, SET, (R, R))
            self.assert_bad_table(0, function, NONE, (NULL,))
        self.assert_bad_table(0, select, SET, (R, R), ("same",))
        self.assert_bad_table(0, select, NONE, (NULL,), ("same",))

    def test_bad_filters(self):
        for value in STRANGE + (("less", 0, 10), ("less", 2, 0), ("null", True), ["same"]):
            for table in ((), (R,)):
                with self.assertRaises(BadFilter):
                    select(SQL, table, value)

    def test_first_invalid_argument_decides(self):
        for function in OF_ONE_TABLE:
            with self.assertRaises(BadSemantics):
                function(SQL[:4], 7)
        for function in OF_TWO_TABLES:
            with self.assertRaises(BadSemantics):
                function(SQL[:4], 7, 7)
            with self.assertRaises(BadSemantics):
                function(SQL[:4], (), 7)
        with self.assertRaises(BadSemantics):
            select(SQL[:4], 7, 7)
        with self.assertRaises(BadSemantics):
            select(SQL[:4], (), 7)
        self.assert_bad_table(0, select, SQL, 7, 7)

    def test_arguments_are_not_modified(self):
        value = [[0, 0], [0, 1]]
        for function in OF_TWO_TABLES:
            self.assert_bad_table(0, function, SQL, value, value)
        self.assertEqual(value, [[0, 0], [0, 1]])


if __name__ == "__main__":
    unittest.main()
