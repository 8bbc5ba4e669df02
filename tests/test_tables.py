import copy
import itertools
import unittest

from queryheld import tables
from queryheld.errors import BadSemantics, BadTable
from queryheld.tables import all_semantics, check_tables, is_semantics, is_table
from tests.strange import STRANGE

SQL = ("bag", "sum", "count", "unknown", "null")
SET = ("set",) + SQL[1:]
NONE = SQL[:3] + ("none", "null")
VALUE = SQL[:3] + ("value", "null")

WORDS = (
    ("bag", "set"), ("maximum", "sum"), ("count", "kind"), ("none", "unknown", "value"), ("null", "zero"),
)


class ExampleTest(unittest.TestCase):
    def test_example(self):
        sql = ("bag", "sum", "count", "unknown", "null")
        found = [
            is_semantics(sql), len(all_semantics()), is_table(sql, ((None, 1), (2, 2), (2, 2))),
            is_table(("set",) + sql[1:], ((2, 2), (2, 2))),
        ]
        self.assertEqual(found, [True, 48, True, False])
        with self.assertRaises(BadSemantics):
            is_table(sql[:4], ())

    def test_defined_in_their_file(self):
        for function in (is_semantics, all_semantics, is_table):
            self.assertEqual(function.__module__, tables.__name__)


class SemanticsTest(unittest.TestCase):
    def test_all_semantics(self):
        found = all_semantics()
        self.assertIs(type(found), tuple)
        self.assertEqual(found, tuple(itertools.product(*WORDS)))
        self.assertEqual(list(found), sorted(found))
        self.assertEqual(len(set(found)), 48)

    def test_each_word_of_each_part(self):
        for value in itertools.product(*WORDS):
            self.assertIs(is_semantics(value), True)

    def test_each_part_wrong(self):
        every_word = [word for words in WORDS for word in words]
        wrong = every_word + ["", "Bag", "bag ", None, True, False, 0, [], {}, (), ("bag",), ["bag"], BadTable(0)]
        for at, words in enumerate(WORDS):
            for word in wrong:
                value = SQL[:at] + (word,) + SQL[at + 1:]
                with self.subTest(value=value):
                    self.assertIs(is_semantics(value), isinstance(word, str) and word in words)

    def test_length_order_and_kind(self):
        for value in (SQL[:4], SQL + ("null",), SQL[::-1], (), list(SQL), dict.fromkeys(SQL), (SQL,), " ".join(SQL)):
            self.assertIs(is_semantics(value), False)

    def test_strange_values(self):
        for number, value in enumerate(STRANGE):
            with self.subTest(number=number):
                self.assertIs(is_semantics(value), False)
                self.assertIs(is_semantics((value,) + SQL[1:]), value.__class__ is str and value == "bag")
                self.assertIs(is_semantics(SQL[:4] + (value,)), False)


class ValueTest(unittest.TestCase):
    def test_integers(self):
        for n in range(10):
            self.assertIs(is_table(NONE, ((n, 0),)), True)
            self.assertIs(is_table(NONE, ((0, n),)), True)
        for n in (-1, 10, -10 ** 5000, 10 ** 5000):
            self.assertIs(is_table(VALUE, ((n, 0),)), False)
            self.assertIs(is_table(VALUE, ((0, n),)), False)

    def test_true_and_false_are_no_integers(self):
        for value in (True, False):
            for semantics in all_semantics():
                self.assertIs(is_table(semantics, ((value, 5),)), False)
                self.assertIs(is_table(semantics, ((0, value),)), False)

    def test_null_under_each_kind_of_nulls(self):
        for semantics in all_semantics():
            for table in (((None, 0),), ((0, None),), ((None, None),), ((None, 3), (0, 0))):
                with self.subTest(semantics=semantics, table=table):
                    self.assertIs(is_table(semantics, table), semantics[3] != "none")


class TableTest(unittest.TestCase):
    def test_no_row(self):
        for semantics in all_semantics():
            self.assertIs(is_table(semantics, ()), True)

    def test_number_of_rows(self):
        different = tuple((key, value) for key in range(2) for value in range(10))
        for semantics in all_semantics():
            self.assertIs(is_table(semantics, different[:11]), True)
            self.assertIs(is_table(semantics, different[:12]), True)
            self.assertIs(is_table(semantics, different[:13]), False)
            self.assertIs(is_table(semantics, different), False)
        self.assertIs(is_table(SQL, ((0, 0),) * 12), True)
        self.assertIs(is_table(SQL, ((0, 0),) * 13), False)

    def test_equal_rows(self):
        for semantics in all_semantics():
            for table in (((0, 0), (0, 0)), ((0, 0), (3, 1), (3, 1)), ((1, 2), (1, 2), (4, 0))):
                self.assertIs(is_table(semantics, table), semantics[0] == "bag")
        self.assertIs(is_table(SQL, ((None, None), (None, None))), True)
        self.assertIs(is_table(SET, ((None, None), (None, None))), False)
        self.assertIs(is_table(SET, ((0, 0), (1, 0), (0, 0))), False)

    def test_order_of_two_rows(self):
        values = (None, 0, 1, 9)
        rows = list(itertools.product(values, values))
        for one, other in itertools.product(range(len(rows)), repeat=2):
            table = (rows[one], rows[other])
            with self.subTest(table=table):
                self.assertIs(is_table(SQL, table), one <= other)
                self.assertIs(is_table(VALUE, table), one <= other)
                self.assertIs(is_table(SET, table), one < other)

    def test_order_of_more_rows(self):
        self.assertIs(is_table(SET, ((None, None), (None, 0), (0, None), (0, 0), (0, 9), (9, 0))), True)
        self.assertIs(is_table(SQL, ((0, 0), (1, 0), (0, 5))), False)
        self.assertIs(is_table(SQL, ((1, 0), (0, 5), (2, 0))), False)
        self.assertIs(is_table(SQL, ((0, 0), (2, 2), (None, 0))), False)

    def test_forms(self):
        for value in (
            ((0,),), ((0, 0, 0),), ((),), (0, 0), [(0, 0)], ([0, 0],), ((0, 0), [1, 1]), {(0, 0): True}, ({0: 0},),
            (((0, 0),),), ("00",), (None,), ((0, "1"),), ((0, [1]),), (({}, 1),), (((), ()),), ((0, (1,)),),
        ):
            with self.subTest(value=value):
                self.assertIs(is_table(SQL, value), False)

    def test_strange_values(self):
        for number, value in enumerate(STRANGE):
            with self.subTest(number=number):
                self.assertIs(is_table(SQL, value), False)
                self.assertIs(is_table(SQL, (value,)), False)
                self.assertIs(is_table(SQL, ((0, 0), value)), False)
                allowed = value is None or value.__class__ is int and 0 <= value <= 9
                self.assertIs(is_table(SQL, ((0, value),)), allowed)
                self.assertIs(is_table(SQL, ((value, 9),)), allowed)

    def test_bad_semantics_comes_first(self):
        for value in STRANGE + (SQL[:4], SQL + ("null",), list(SQL)):
            for table in ((), ((0, 0),), 7):
                with self.assertRaises(BadSemantics):
                    is_table(value, table)

    def test_arguments_are_not_modified(self):
        value = [[0, 0], {"a": [1]}]
        before = copy.deepcopy(value)
        is_table(SQL, value)
        is_table(SQL, (value,))
        is_semantics(value)
        self.assertEqual(value, before)


class BadTableTest(unittest.TestCase):
    def assert_bad(self, index, semantics, values):
        with self.assertRaises(BadTable) as caught:
            check_tables(semantics, values)
        self.assertEqual(caught.exception.index, index)

    def test_first_invalid_table_decides(self):
        self.assertIsNone(check_tables(SQL, ((), ((0, 0),))))
        self.assert_bad(0, SQL, (7,))
        self.assert_bad(0, SQL, (7, ()))
        self.assert_bad(0, SQL, ([], (4, 2)))
        self.assert_bad(1, SQL, ((), (4, 2)))
        self.assert_bad(2, SQL, ((), ((4, 2),), None))
        self.assert_bad(1, SET, (((0, 0),), ((0, 0), (0, 0))))

    def test_bad_semantics_comes_first(self):
        with self.assertRaises(BadSemantics):
            check_tables(SQL[:4], (7,))


if __name__ == "__main__":
    unittest.main()
