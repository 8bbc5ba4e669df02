import itertools
import unittest

from queryheld import identities as module
from queryheld.errors import BadArguments, BadIdentity, BadSemantics
from queryheld.identities import holds_for, identities, shape
from queryheld.tables import all_semantics
from tests.reference import FILTERS, ROWS, Reference, tables_under
from tests.strange import STRANGE, nested
from tests.told import F, N, P, R, S, SHAPES, T, breaking, told

SQL = ("bag", "sum", "count", "unknown", "null")
SET = ("set",) + SQL[1:]
NONE = SQL[:3] + ("none", "null")


def arguments_of(words, tables):
    return itertools.product(*[tables if word == T else FILTERS for word in words])


class ExampleTest(unittest.TestCase):
    def test_example(self):
        sql = ("bag", "sum", "count", "unknown", "null")
        self.assertEqual(
            [len(identities()), shape("filter or"), holds_for(sql, "not in", (((0, 0),), ((None, 0),))),
             holds_for(sql, "not in", (((0, 0),), ((1, 0),)))],
            [26, ('table', 'filter', 'filter'), False, True],
        )
        with self.assertRaises(BadArguments):
            holds_for(sql, "not in", ())

    def test_defined_in_their_file(self):
        for function in (identities, shape, holds_for):
            self.assertEqual(function.__module__, module.__name__)


class ShapeTest(unittest.TestCase):
    def test_names(self):
        self.assertIs(type(identities()), tuple)
        self.assertEqual(identities(), tuple(name for name, _ in SHAPES))

    def test_shapes(self):
        for name, words in SHAPES:
            self.assertIs(type(shape(name)), tuple)
            self.assertEqual(shape(name), words, name)

    def test_bad_identities(self):
        for value in STRANGE + ((), "not_in", "Not in", "not in ", "filter", ("not in",), ["not in"], "union"):
            with self.assertRaises(BadIdentity):
                shape(value)


class HoldsForTest(unittest.TestCase):
    def test_small_tables_by_another_way(self):
        for semantics in all_semantics():
            reference = Reference(semantics)
            tables = {1: tables_under(semantics, ROWS, 2), 2: tables_under(semantics, ROWS[1:5], 2)}
            tables[3] = tables[2][1::3]
            for name, words in SHAPES:
                for arguments in arguments_of(words, tables[words.count(T)]):
                    found = holds_for(semantics, name, arguments)
                    self.assertIs(found, reference.holds_for(name, arguments), (semantics, name, arguments))
                    if told(semantics)[name]:
                        self.assertIs(found, True, (semantics, name, arguments))

    def test_broken_where_not_told_to_hold(self):
        for semantics in all_semantics():
            for name, _ in SHAPES:
                if not told(semantics)[name]:
                    self.assertIs(holds_for(semantics, name, breaking(semantics, name)), False, (semantics, name))

    def test_empty_tables(self):
        for semantics in all_semantics():
            for name, words in SHAPES:
                self.assertIs(holds_for(semantics, name, tuple(() if word == T else P for word in words)), True)

    def test_null_plus_anything(self):
        null = ((0, None),)
        for empty in ("null", "zero"):
            semantics = SQL[:4] + (empty,)
            for arguments in (((S,), ()), ((), (S,)), ((S,), null), (null, (S,))):
                self.assertIs(holds_for(semantics, "total of union", arguments), empty == "zero")
            for arguments in ((null, null), ((), ()), (null, ()), ((S,), (S,))):
                self.assertIs(holds_for(semantics, "total of union", arguments), True)

    def test_order_of_arguments(self):
        # A, B and C are not exchangeable here, neither are p and q.
        kind = ("bag", "sum", "kind", "none", "null")
        self.assertIs(holds_for(kind, "add and take", ((S,), (R,))), True)
        self.assertIs(holds_for(kind, "add and take", ((R,), (R,))), False)
        self.assertIs(holds_for(SQL, "absorbing union", ((R, R), (S,))), True)
        self.assertIs(holds_for(SQL, "absorbing union", ((R, S), (S,))), False)
        most = ("bag", "maximum", "count", "none", "null")
        self.assertIs(holds_for(most, "difference of union", ((R, R), (R,), (S,))), True)
        self.assertIs(holds_for(most, "difference of union", ((R, R), (R,), (R,))), False)
        self.assertIs(holds_for(SQL, "join as semijoin", ((R,), (R, S))), False)
        self.assertIs(holds_for(SQL, "join as semijoin", ((R, S), (R,))), True)
        self.assertIs(holds_for(SQL, "not in", ((N,), (R,))), False)
        self.assertIs(holds_for(SQL, "not in", ((N,), ())), True)

    def test_rows_of_unequal_length_stay_apart(self):
        for semantics in all_semantics():
            table = ((0, 0), (0, 1), (1, 0))
            self.assertIs(holds_for(semantics, "join as semijoin", (table, ((1, 1),))), True)
            self.assertIs(holds_for(semantics, "projection of intersection", (table, table)), True)

    def test_greatest_arguments(self):
        twelve = tuple((key, value) for key in range(4) for value in range(3))
        longest = nested(("equal", 1, 1), lambda inner: ("not", inner), 19)
        for semantics in all_semantics():
            for name, words in SHAPES:
                arguments = tuple(twelve if word == T else longest for word in words)
                found = holds_for(semantics, name, arguments)
                self.assertIs(found, Reference(semantics).holds_for(name, arguments), (semantics, name))
        self.assertIs(holds_for(SQL, "join over union", ((R,) * 12,) * 3), True)
        self.assertIs(holds_for(SQL, "count of union", ((R,) * 12,) * 2), True)
        # The longest filter is True for R alone, its part for S alone.
        self.assertIs(holds_for(SQL, "filter or", ((R,) * 12, longest, longest)), False)
        self.assertIs(holds_for(SQL, "filter or", ((S,) * 12, longest, longest)), True)
        self.assertIs(holds_for(SQL, "filter or", ((R,) * 12, longest, longest[1])), True)


class WrongInputTest(unittest.TestCase):
    def test_bad_arguments(self):
        good = {T: (R,), F: P}
        for name, words in SHAPES:
            arguments = tuple(good[word] for word in words)
            wrong = [arguments[:-1], arguments + (P,), arguments + ((),), list(arguments), (arguments,)]
            # ((),) is an empty table.
            wrong += [value for value in STRANGE if value != ((),) or words != (T,)]
            for at, word in enumerate(words):
                other = good[F] if word == T else good[T]
                bad_tables = (other, [R], (S, R), R, ((0, 10),), ((0, True),), (R,) * 13)
                bad_filters = (other, [*P], ("less", 2, 0), nested(("same",), lambda inner: ("not", inner), 20))
                for value in (bad_tables if word == T else bad_filters) + STRANGE:
                    wrong.append(arguments[:at] + (value,) + arguments[at + 1:])
            for value in wrong:
                with self.assertRaises(BadArguments):
                    holds_for(SQL, name, value)

    def test_tables_under_other_semantics(self):
        for name, words in SHAPES:
            for at, word in enumerate(words):
                if word == T:
                    for semantics, table in ((SET, (R, R)), (NONE, (N,)), (NONE, ((0, None),))):
                        arguments = [(R,) if word == T else P for word in words]
                        arguments[at] = table
                        with self.assertRaises(BadArguments):
                            holds_for(semantics, name, tuple(arguments))
                        self.assertIn(holds_for(SQL, name, tuple(arguments)), (True, False))

    def test_bad_identities_and_semantics(self):
        for value in STRANGE + ((), "not_in", ("not in",), ["not in"]):
            with self.assertRaises(BadIdentity):
                holds_for(SQL, value, ((R,), (R,)))
            with self.assertRaises(BadSemantics):
                holds_for(value, "not in", ((R,), (R,)))

    def test_first_invalid_argument_decides(self):
        with self.assertRaises(BadSemantics):
            holds_for(SQL[:4], "nothing", 7)
        with self.assertRaises(BadSemantics):
            holds_for(SQL[:4], "not in", 7)
        with self.assertRaises(BadIdentity):
            holds_for(SQL, "nothing", 7)

    def test_arguments_are_not_modified(self):
        value = [[R], [[0, 1]]]
        with self.assertRaises(BadArguments):
            holds_for(SQL, "not in", value)
        with self.assertRaises(BadArguments):
            holds_for(SQL, "not in", tuple(value))
        self.assertEqual(value, [[R], [[0, 1]]])


if __name__ == "__main__":
    unittest.main()
