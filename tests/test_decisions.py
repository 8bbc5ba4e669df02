import itertools
import unittest

from queryheld import decisions
from queryheld.decisions import counterexample, holds
from queryheld.errors import BadIdentity, BadSemantics
from queryheld.identities import holds_for, identities
from queryheld.tables import all_semantics, is_table
from tests.reference import FILTERS, ROWS, Reference, tables_under
from tests.strange import STRANGE
from tests.told import F, R, S, SHAPES, T, breaking, told

SQL = ("bag", "sum", "count", "unknown", "null")


def small_arguments(semantics, words):
    """Arguments among which there is one that breaks each identity that does not hold."""
    if words.count(T) == 3:
        tables = tables_under(semantics, (R, S), 2)
    else:
        tables = tables_under(semantics, ROWS[:2] + (R, S), 2)
    return itertools.product(*[tables if word == T else FILTERS for word in words])


class ExampleTest(unittest.TestCase):
    def test_example(self):
        sql = ("bag", "sum", "count", "unknown", "null")
        self.assertEqual(
            [holds(sql, "not in"), counterexample(sql, "not in"), holds(sql, "add and take"),
             counterexample(sql, "add and take"), counterexample(sql, "filter complete")],
            [False, (((0, 0),), ((None, 0),)), True, None, (((None, 0),), ('less', 0, 1))],
        )

    def test_defined_in_their_file(self):
        for function in (holds, counterexample):
            self.assertEqual(function.__module__, decisions.__name__)


class HoldsTest(unittest.TestCase):
    def test_as_the_document_tells(self):
        for semantics in all_semantics():
            for name, expected in told(semantics).items():
                self.assertIs(holds(semantics, name), expected, (semantics, name))

    def test_how_often(self):
        always = ("absorbing intersection", "union over intersection", "filter and", "semijoin and antijoin",
                  "join over union")
        expected = {name: 48 for name in always} | {
            "idempotent union": 36, "absorbing union": 36, "intersection by difference": 36,
            "difference of union": 42, "union less part": 42, "add and take": 6, "intersection over union": 36,
            "filter or": 36, "filter not": 32, "filter complete": 32, "projection of union": 36,
            "projection of intersection": 0, "self semijoin": 32, "not in": 32, "join as semijoin": 24,
            "count of union": 12, "inclusion and exclusion": 36, "total of union": 6, "total of parts": 16,
            "distinct union": 36, "distinct difference": 36,
        }
        found = {name: sum(holds(semantics, name) for semantics in all_semantics()) for name in identities()}
        self.assertEqual(found, expected)

    def test_small_tables_by_another_way(self):
        for semantics in all_semantics():
            reference = Reference(semantics)
            for name, words in SHAPES:
                unbroken = all(reference.holds_for(name, part) for part in small_arguments(semantics, words))
                self.assertIs(holds(semantics, name), unbroken, (semantics, name))


class CounterexampleTest(unittest.TestCase):
    def test_each_of_the_document(self):
        for semantics in all_semantics():
            for name, _ in SHAPES:
                expected = None if told(semantics)[name] else breaking(semantics, name)
                self.assertEqual(counterexample(semantics, name), expected, (semantics, name))

    def test_breaks_exactly_where_the_identity_does_not_hold(self):
        for semantics in all_semantics():
            reference = Reference(semantics)
            for name, _ in SHAPES:
                found = counterexample(semantics, name)
                self.assertIs(found is None, holds(semantics, name), (semantics, name))
                if found is not None:
                    self.assertIs(type(found), tuple)
                    self.assertIs(holds_for(semantics, name, found), False, (semantics, name))
                    self.assertIs(reference.holds_for(name, found), False, (semantics, name))

    def test_no_counterexample_of_other_semantics_breaks_what_holds(self):
        for name, words in SHAPES:
            found = {counterexample(semantics, name) for semantics in all_semantics()} - {None}
            for semantics, arguments in itertools.product(all_semantics(), found):
                tables = [part for part, word in zip(arguments, words) if word == T]
                if holds(semantics, name) and all(is_table(semantics, table) for table in tables):
                    self.assertIs(holds_for(semantics, name, arguments), True, (semantics, name))

    def test_depends_on_the_semantics(self):
        p = ("less", 0, 1)
        for duplicates, sums, expected in (
            ("bag", "sum", ((S,), ())), ("bag", "maximum", ((S,), (S,))),
            ("set", "sum", ((S,), (S,))), ("set", "maximum", ((S,), (S,))),
        ):
            for nulls in ("none", "unknown", "value"):
                semantics = (duplicates, sums, "count", nulls, "null")
                self.assertEqual(counterexample(semantics, "total of union"), expected)
        for duplicates in ("bag", "set"):
            start = (duplicates, "maximum", "kind")
            for empty in ("null", "zero"):
                self.assertEqual(counterexample(start + ("unknown", empty), "total of parts"), (((None, 1),), p))
            for nulls in ("none", "value"):
                self.assertEqual(counterexample(start + (nulls, "null"), "total of parts"), ((S,), p))
                self.assertIsNone(counterexample(start + (nulls, "zero"), "total of parts"))


class WrongInputTest(unittest.TestCase):
    def test_wrong_inputs(self):
        names = ((), "", "not_in", "Not in", "not in ", ("not in",), ["not in"], "select", F, T)
        for function in (holds, counterexample):
            for value in STRANGE + names:
                with self.assertRaises(BadIdentity):
                    function(SQL, value)
            for value in STRANGE + (SQL[:4], SQL + ("null",), list(SQL), SQL[::-1]):
                for name in ("not in", "join over union", "projection of intersection"):
                    with self.assertRaises(BadSemantics):
                        function(value, name)

    def test_first_invalid_argument_decides(self):
        for function in (holds, counterexample):
            for value in STRANGE:
                with self.assertRaises(BadSemantics):
                    function(SQL[:4], value)


if __name__ == "__main__":
    unittest.main()
