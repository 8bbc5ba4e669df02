"""What the document promises over the whole program: names, arguments, errors, and that nothing is modified."""

import copy
import importlib
import inspect
import itertools
import unittest

from queryheld import algebra, decisions, desks, expressions, filters, identities, profiles, tables, texts
from queryheld.errors import (
    BadArguments, BadCase, BadExpression, BadFilter, BadIdentities, BadIdentity, BadRow, BadSemantics, BadTable,
    InvalidText, NotText, QueryError,
)
from queryheld.tables import all_semantics
from tests.strange import STRANGE

SQL = ("bag", "sum", "count", "unknown", "null")
ROWS = ((None, 1), (2, 2), (2, 2))
LEAF = ("table", 0)
LESS = ("less", 0, 1)

# The functions of the interface by module, with their parameters; "filter_" stands for the builtin's name.
INTERFACE = {
    "tables": {"is_semantics": "value", "is_table": "semantics value", "all_semantics": ""},
    "filters": {"is_filter": "value", "truth": "semantics filter_ row"},
    "algebra": {
        "union": "semantics A B", "intersection": "semantics A B", "difference": "semantics A B",
        "select": "semantics A filter_", "project": "semantics A", "join": "semantics A B",
        "semijoin": "semantics A B", "antijoin": "semantics A B", "not_in": "semantics A B", "distinct": "semantics A",
        "total": "semantics A",
    },
    "expressions": {
        "is_expression": "value", "equal_for_all": "semantics left right", "evaluate": "semantics expression A B p q",
        "count_at": "semantics expression case", "least_difference": "semantics left right",
    },
    "identities": {"identities": "", "shape": "identity", "holds_for": "semantics identity arguments"},
    "decisions": {"holds": "semantics identity", "counterexample": "semantics identity"},
    "profiles": {
        "profile": "semantics", "profiles": "", "semantics_with": "wanted", "implies": "one other", "parting": "one other",
    },
    "texts": {
        "write_table": "semantics A", "read_table": "semantics text", "write_filter": "filter_", "read_filter": "text",
    },
    "desks": {"Desk": "semantics"},
}

# Calls with right arguments, each with the errors for a wrong one, in the order of the arguments.
CALLS = (
    (tables.is_table, (SQL, ROWS), (BadSemantics, None)),
    (filters.truth, (SQL, LESS, (0, 0)), (BadSemantics, BadFilter, BadRow)),
    (algebra.union, (SQL, ROWS, ROWS), (BadSemantics, BadTable(0), BadTable(1))),
    (algebra.intersection, (SQL, ROWS, ROWS), (BadSemantics, BadTable(0), BadTable(1))),
    (algebra.difference, (SQL, ROWS, ROWS), (BadSemantics, BadTable(0), BadTable(1))),
    (algebra.select, (SQL, ROWS, LESS), (BadSemantics, BadTable(0), BadFilter)),
    (algebra.project, (SQL, ROWS), (BadSemantics, BadTable(0))),
    (algebra.join, (SQL, ROWS, ROWS), (BadSemantics, BadTable(0), BadTable(1))),
    (algebra.semijoin, (SQL, ROWS, ROWS), (BadSemantics, BadTable(0), BadTable(1))),
    (algebra.antijoin, (SQL, ROWS, ROWS), (BadSemantics, BadTable(0), BadTable(1))),
    (algebra.not_in, (SQL, ROWS, ROWS), (BadSemantics, BadTable(0), BadTable(1))),
    (algebra.distinct, (SQL, ROWS), (BadSemantics, BadTable(0))),
    (algebra.total, (SQL, ROWS), (BadSemantics, BadTable(0))),
    (expressions.evaluate, (SQL, LEAF, ROWS, ROWS, LESS, LESS),
     (BadSemantics, BadExpression(0), BadTable(0), BadTable(1), BadFilter, BadFilter)),
    (expressions.count_at, (SQL, LEAF, (1, 0, True, None)), (BadSemantics, BadExpression(0), BadCase)),
    (expressions.equal_for_all, (SQL, LEAF, LEAF), (BadSemantics, BadExpression(0), BadExpression(1))),
    (expressions.least_difference, (SQL, LEAF, LEAF), (BadSemantics, BadExpression(0), BadExpression(1))),
    (identities.shape, ("not in",), (BadIdentity,)),
    (identities.holds_for, (SQL, "not in", (ROWS, ROWS)), (BadSemantics, BadIdentity, BadArguments)),
    (decisions.holds, (SQL, "not in"), (BadSemantics, BadIdentity)),
    (decisions.counterexample, (SQL, "not in"), (BadSemantics, BadIdentity)),
    (profiles.profile, (SQL,), (BadSemantics,)),
    (profiles.implies, ("not in", "filter or"), (BadIdentity, BadIdentity)),
    (profiles.parting, ("not in", "filter or"), (BadIdentity, BadIdentity)),
    (profiles.semantics_with, (("not in",),), (BadIdentities,)),
    (texts.write_table, (SQL, ROWS), (BadSemantics, BadTable(0))),
    (texts.read_table, (SQL, "0,0"), (BadSemantics, NotText)),
    (texts.write_filter, (LESS,), (BadFilter,)),
    (texts.read_filter, ("same",), (NotText,)),
    (desks.Desk, (SQL,), (BadSemantics,)),
    (desks.Desk(SQL).run, ("show",), (NotText,)),
)

# Values that are wrong for each argument above and can be modified.
CHANGEABLE = ([], [[0, 0]], {"same": [1]}, {}, [["not", ["same"]]], ["bag"])


class InterfaceTest(unittest.TestCase):
    def test_names_and_parameters(self):
        for name, functions in INTERFACE.items():
            module = importlib.import_module(f"queryheld.{name}")
            for function, words in functions.items():
                found = vars(module)[function]
                self.assertEqual(found.__module__, module.__name__)
                self.assertEqual(list(inspect.signature(found).parameters), words.split(), function)
        self.assertEqual(list(inspect.signature(desks.Desk.run).parameters), ["self", "line"])
        self.assertEqual(list(inspect.signature(desks.Desk.undo).parameters), ["self"])


class ErrorTest(unittest.TestCase):
    def assert_raised(self, expected, function, arguments):
        kind = expected if isinstance(expected, type) else expected.__class__
        with self.assertRaises(kind) as caught:
            function(*arguments)
        self.assertIs(caught.exception.__class__, kind)
        self.assertIsInstance(caught.exception, QueryError)
        if expected is not kind:
            self.assertEqual(caught.exception.index, expected.index)

    def test_first_invalid_argument_decides(self):
        for function, arguments, errors in CALLS:
            function(*arguments)
            for invalid in itertools.product((False, True), repeat=len(arguments)):
                wrong = [at for at, part in enumerate(invalid) if part and errors[at] is not None]
                if wrong:
                    for value in (None, 7, [], STRANGE[-1]):
                        given = [value if at in wrong else part for at, part in enumerate(arguments)]
                        self.assert_raised(errors[wrong[0]], function, given)

    def test_not_text_comes_before_invalid_text(self):
        for function, start in ((texts.read_table, (SQL,)), (texts.read_filter, ()), (desks.Desk(SQL).run, ())):
            self.assert_raised(NotText, function, (*start, 7))
            self.assert_raised(InvalidText, function, (*start, "7"))

    def test_all_semantics_are_taken(self):
        for semantics in all_semantics():
            for function, arguments, _ in CALLS:
                if arguments[0] == SQL:
                    given = [((1, 1),) if part == ROWS else part for part in arguments[1:]]
                    given = [(((1, 1),),) * 2 if part == (ROWS, ROWS) else part for part in given]
                    given = [(1, 0, True, False) if part == (1, 0, True, None) else part for part in given]
                    function(semantics, *given)


class NothingModifiedTest(unittest.TestCase):
    def test_wrong_arguments(self):
        for function, arguments, _ in CALLS:
            for at, value in itertools.product(range(len(arguments)), CHANGEABLE):
                for wrong in (value, (value,), (value, value), arguments[at] + (value,)
                              if isinstance(arguments[at], tuple) else value):
                    given = [*arguments[:at], wrong, *arguments[at + 1:]]
                    before = copy.deepcopy(given)
                    try:
                        function(*given)
                    except QueryError:
                        pass
                    self.assertEqual(given, before)

    def test_results_do_not_depend_on_earlier_calls(self):
        for function, arguments, _ in CALLS:
            found = function(*arguments)
            if not isinstance(found, desks.Desk):
                self.assertEqual(function(*arguments), found)

    def test_results_cannot_be_modified(self):
        for function, arguments, _ in CALLS:
            found = function(*arguments)
            if not isinstance(found, desks.Desk):
                # Only tuples, strings, integers, True, False and None have such a value of their own.
                hash(found)


if __name__ == "__main__":
    unittest.main()
