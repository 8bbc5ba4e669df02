import itertools
import unittest

from queryheld import texts
from queryheld.errors import BadFilter, BadSemantics, BadTable, InvalidText, NotText
from queryheld.filters import is_filter
from queryheld.tables import all_semantics, is_table
from queryheld.texts import read_filter, read_table, write_filter, write_table
from tests.reference import FILTERS, ROWS, tables_under
from tests.strange import STRANGE, nested

SQL = ("bag", "sum", "count", "unknown", "null")
SET = ("set",) + SQL[1:]
NONE = SQL[:3] + ("none", "null")

SAME = ("same",)
NO_STRINGS = tuple(value for value in STRANGE if not isinstance(value, str))

# Blanks, digits and words of other writings, as they must not be taken for the document's.
SLIPS = ("\t", "\n", "\r", "\x0b", "\x0c", "\x1c", "\x00", "\x85", "\xa0", "\u2003", "\u2028", "\ufeff", "\ud800")
DIGITS_ELSEWHERE = ("\u0660", "\u0663", "\u00b2", "\uff11", "\u0967", "\u2460")


def balanced(leaves):
    """A filter of 2 * leaves - 1 tuples."""
    if leaves == 1:
        return ("less", 1, 9)
    return ("or", balanced(leaves // 2), balanced(leaves - leaves // 2))


class ExampleTest(unittest.TestCase):
    def test_example(self):
        sql = ("bag", "sum", "count", "unknown", "null")
        self.assertEqual(
            [write_table(sql, ((None, 1), (4, 2))), read_table(sql, "0,0; 0,0"), write_filter(("not", ("less", 0, 5))),
             read_filter("and same null 1")],
            ['null,1; 4,2', ((0, 0), (0, 0)), 'not less 0 5', ('and', ('same',), ('null', 1))],
        )
        with self.assertRaises(InvalidText):
            read_table(sql, "1,0; 0,1")

    def test_defined_in_their_file(self):
        for function in (write_table, read_table, write_filter, read_filter):
            self.assertEqual(function.__module__, texts.__name__)


class TableTest(unittest.TestCase):
    def assert_invalid(self, semantics, text):
        with self.assertRaises(InvalidText, msg=repr(text)):
            read_table(semantics, text)

    def test_texts_of_tables(self):
        for table, text in (
            ((), "-"), (((0, 0),), "0,0"), (((None, None),), "null,null"), (((9, None),), "9,null"),
            (((None, 3), (0, 9), (8, 1)), "null,3; 0,9; 8,1"), (((1, 2),) * 3, "1,2; 1,2; 1,2"),
            (((7, 7),) * 12, "; ".join(["7,7"] * 12)),
        ):
            self.assertEqual(write_table(SQL, table), text)
            self.assertEqual(read_table(SQL, text), table)

    def test_what_was_written_comes_back(self):
        for semantics in all_semantics():
            for table in tables_under(semantics, ROWS, 3):
                text = write_table(semantics, table)
                self.assertIs(type(text), str)
                found = read_table(semantics, text)
                self.assertEqual(found, table)
                self.assertIs(is_table(semantics, found), True)

    def test_each_value(self):
        for n in range(10):
            self.assertEqual(read_table(NONE, f"{n},{9 - n}"), ((n, 9 - n),))
            self.assertEqual(write_table(NONE, ((n, 9 - n),)), f"{n},{9 - n}")

    def test_number_of_rows(self):
        rows = [f"{key},{value}" for key in range(2) for value in range(10)]
        for semantics in all_semantics():
            for many in (1, 2, 11, 12):
                self.assertEqual(write_table(semantics, read_table(semantics, "; ".join(rows[:many]))),
                                 "; ".join(rows[:many]))
            for many in (13, 14, 20):
                self.assert_invalid(semantics, "; ".join(rows[:many]))
        self.assert_invalid(SQL, "; ".join(["0,0"] * 13))
        self.assert_invalid(SQL, "; ".join(["0,0"] * 100000))

    def test_rows_that_are_no_table(self):
        for semantics in all_semantics():
            for text in ("0,1; 0,0", "1,0; 0,1", "0,0; null,0", "0,0; 0,null", "0,0; 1,0; 0,0"):
                self.assert_invalid(semantics, text)
            for text in ("0,0; 0,0", "0,0; 0,0; 0,1", "1,2; 3,4; 3,4"):
                if semantics[0] == "set":
                    self.assert_invalid(semantics, text)
                else:
                    self.assertEqual(write_table(semantics, read_table(semantics, text)), text)
            for text in ("null,0", "0,null", "null,null", "null,null; null,0; 0,null"):
                if semantics[3] == "none":
                    self.assert_invalid(semantics, text)
                else:
                    self.assertEqual(write_table(semantics, read_table(semantics, text)), text)

    def test_numbers(self):
        for word in ("10", "99", "100", "-1", "-0", "+1", "00", "01", "007", "1.0", "0x1", "1_0", "1e0", "", "01234",
                     "12", "a", "None", "Null", "NULL", "nul", "nulls", "null0", "True", "False", "true", "-", "1" * 5000,
                     *DIGITS_ELSEWHERE):
            self.assert_invalid(SQL, f"{word},9")
            self.assert_invalid(SQL, f"0,{word}")
            self.assert_invalid(SQL, f"0,0; 0,{word}")

    def test_blanks_and_signs(self):
        for text in (
            "", " ", "  ", "--", "- ", " -", "-; -", "-; 0,0", "0,0; -", "-,-", "0", "0,", ",0", ",", "0,0,0", "null", ";",
            "; ", "0,0;", "0,0; ", "0,0;0,1", "0,0;  0,1", "0,0 ; 0,1", "0,0 0,1", "0,0, 0,1", "0,0; ; 0,1", "; 0,0",
            "0,0;; 0,1", "0, 0", "0 ,0", " 0,0", "0,0 ", "0 0", "0;0", "0.0", "(0, 0)", "((0, 0),)", "'0,0'", "0,0; 0,1;",
            "0,0\n", "0,0;\n0,1", "-\n", "0,0;\t0,1",
        ):
            self.assert_invalid(SQL, text)
        for slip in SLIPS:
            for text in (slip, slip + "0,0", "0,0" + slip, "0" + slip + ",0", "0," + slip + "0", "-" + slip, slip + "-",
                         "0,0;" + slip + "0,1", "0,0; " + slip + "0,1"):
                self.assert_invalid(SQL, text)

    def test_all_short_texts(self):
        for length in range(6):
            for signs in itertools.product("01,; -", repeat=length):
                text = "".join(signs)
                right = text == "-" or length == 3 and text[1] == "," and text[0] in "01" and text[2] in "01"
                if right:
                    self.assertEqual(write_table(SQL, read_table(SQL, text)), text)
                else:
                    self.assert_invalid(SQL, text)

    def test_wrong_inputs(self):
        for value in STRANGE:
            with self.assertRaises(BadSemantics):
                write_table(value, ())
            with self.assertRaises(BadSemantics):
                read_table(value, "-")
            with self.assertRaises(BadTable) as caught:
                write_table(SQL, value)
            self.assertEqual(caught.exception.index, 0)
        for value in NO_STRINGS:
            with self.assertRaises(NotText):
                read_table(SQL, value)
        for semantics, table in ((SET, ((0, 0), (0, 0))), (NONE, ((None, 0),)), (SQL, ((0, 0),) * 13)):
            with self.assertRaises(BadTable) as caught:
                write_table(semantics, table)
            self.assertEqual(caught.exception.index, 0)

    def test_first_invalid_argument_decides(self):
        for value in STRANGE:
            with self.assertRaises(BadSemantics):
                write_table(SQL[:4], value)
            with self.assertRaises(BadSemantics):
                read_table(SQL[:4], value)


class FilterTest(unittest.TestCase):
    def assert_invalid(self, text):
        with self.assertRaises(InvalidText, msg=repr(text)[:100]):
            read_filter(text)

    def test_texts_of_filters(self):
        for filter_, text in (
            (SAME, "same"), (("null", 0), "null 0"), (("null", 1), "null 1"), (("less", 0, 0), "less 0 0"),
            (("less", 1, 9), "less 1 9"), (("equal", 0, 7), "equal 0 7"), (("not", SAME), "not same"),
            (("and", SAME, ("null", 1)), "and same null 1"), (("or", ("less", 1, 2), SAME), "or less 1 2 same"),
            (("not", ("and", ("or", SAME, ("null", 0)), ("not", ("equal", 1, 3)))),
             "not and or same null 0 not equal 1 3"),
        ):
            self.assertEqual(write_filter(filter_), text)
            self.assertEqual(read_filter(text), filter_)

    def test_each_comparison(self):
        for word, column, n in itertools.product(("less", "equal"), (0, 1), range(10)):
            self.assertEqual(write_filter((word, column, n)), f"{word} {column} {n}")
            self.assertEqual(read_filter(f"{word} {column} {n}"), (word, column, n))

    def test_what_was_written_comes_back(self):
        once = [("not", f) for f in FILTERS]
        once += [(word, f, g) for word in ("and", "or") for f in FILTERS for g in FILTERS]
        twice = [(word, f, g) for word in ("and", "or") for f in once for g in once]
        seen = set()
        for filter_ in list(FILTERS) + once + twice:
            text = write_filter(filter_)
            self.assertIs(type(text), str)
            self.assertEqual(read_filter(text), filter_)
            seen.add(text)
        self.assertEqual(len(seen), len(set(list(FILTERS) + once + twice)))

    def test_number_of_tuples(self):
        for filter_ in (nested(SAME, lambda inner: ("not", inner), 19), ("not", balanced(10)), balanced(10),
                        nested(SAME, lambda inner: ("and", ("null", 0), inner), 9)):
            self.assertEqual(read_filter(write_filter(filter_)), filter_)
        self.assertEqual(len(write_filter(("not", balanced(10))).split(" ")), 40)
        self.assertEqual(read_filter("not " * 19 + "same"), nested(SAME, lambda inner: ("not", inner), 19))
        self.assert_invalid("not " * 20 + "same")
        self.assert_invalid("not not " + write_filter(balanced(10)))
        self.assert_invalid("or less 1 9 " + write_filter(balanced(10)))
        self.assert_invalid("and " * 10 + " ".join(["null 0"] * 11))
        for times in (100, 100000):
            self.assert_invalid("not " * times + "same")
            self.assert_invalid("and same " * times + "same")
            self.assert_invalid("and " * times + "same " * times + "same")

    def test_wrong_words(self):
        for text in (
            "", " ", "p", "q", "Same", "SAME", "sames", "same,", "(same)", "('same',)", "less", "less 0", "less 0 10",
            "less 0 -1", "less 2 0", "less 0 0 0", "less 0 00", "less 00 0", "less 0 +1", "less 0 01", "less 0 null",
            "less null 0", "less same 0", "less 0 same", "equal", "equal 0", "equal 2 0", "equal 0 10", "equal True 0",
            "null", "null 2", "null -1", "null 0 0", "null same", "null null", "null null 0", "same 0", "0 same", "same same",
            "not", "not same same", "not 0", "not not", "and", "and same", "and same same same", "and same 0", "and 0 same",
            "or", "or same", "or same same same", "same and same", "same not", "less 5 0 not", "0", "0 0", "5", "filter same",
            "table 0", "union same same", "and same equal 0", "or less 0 same", "less 0 1 2", "not less 0", "True", "None",
        ):
            self.assert_invalid(text)

    def test_blanks(self):
        for text in ("not less 0 5", "and same null 1", "or less 0 3 equal 1 9"):
            self.assertIs(is_filter(read_filter(text)), True)
            for wrong in (" " + text, text + " ", text.replace(" ", "  ", 1), text.replace(" ", ""), text + "\n",
                          text.replace(" ", ","), text.replace(" ", ", "), text.replace(" ", "; "), text.upper()):
                self.assert_invalid(wrong)
            for slip in SLIPS:
                for wrong in (slip + text, text + slip, text.replace(" ", slip), text.replace(" ", slip, 1),
                              text.replace(" ", " " + slip, 1)):
                    self.assert_invalid(wrong)
        for digit in DIGITS_ELSEWHERE:
            self.assert_invalid(f"less 0 {digit}")
            self.assert_invalid(f"null {digit}")

    def test_all_short_texts(self):
        words = ("same", "null", "not", "and", "less", "0", "1", "3", "")
        for length in range(5):
            for chosen in itertools.product(words, repeat=length):
                text = " ".join(chosen)
                try:
                    found = read_filter(text)
                except InvalidText:
                    found = None
                self.assertEqual(found, FILTERS_BY_TEXT.get(text), text)

    def test_wrong_inputs(self):
        for value in STRANGE + (("p",), ["same"], ("less", 0, 10), ("null", True), balanced(11), "same"):
            with self.assertRaises(BadFilter):
                write_filter(value)
        for value in NO_STRINGS + (b"same", ("same",), ["same"]):
            with self.assertRaises(NotText):
                read_filter(value)


def short_filters(words):
    """All texts of filters that have so many of the words of the short texts, with their filters."""
    found = {
        1: [("same", SAME)],
        2: [(f"null {k}", ("null", k)) for k in (0, 1)],
        3: [(f"less {k} {n}", ("less", k, n)) for k in (0, 1) for n in (0, 1, 3)],
    }.get(words, [])
    if words > 1:
        found += [(f"not {text}", ("not", f)) for text, f in short_filters(words - 1)]
    for first in range(1, words - 1):
        found += [(f"and {text} {other}", ("and", f, g)) for text, f in short_filters(first)
                  for other, g in short_filters(words - 1 - first)]
    return found


FILTERS_BY_TEXT = dict(pair for words in range(1, 5) for pair in short_filters(words))


if __name__ == "__main__":
    unittest.main()
