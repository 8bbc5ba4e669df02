import itertools
import unittest

from queryheld import algebra, desks
from queryheld.desks import Desk
from queryheld.errors import BadSemantics, InvalidText, NothingToUndo, NotNow, NotText
from queryheld.tables import all_semantics, is_table
from queryheld.texts import read_filter, write_table
from tests.reference import FILTERS
from tests.strange import STRANGE

SQL = ("bag", "sum", "count", "unknown", "null")
SET = ("set",) + SQL[1:]
NONE = SQL[:3] + ("none", "null")
VALUE = SQL[:3] + ("value", "null")
MAXIMUM = ("bag", "maximum") + SQL[2:]

OF_BOTH = ("union", "intersection", "difference", "semijoin", "antijoin", "not_in")

TWELVE = "; ".join(f"{key},{value}" for key in range(4) for value in range(3))

# Texts of rows that are a table under no semantics.
NO_TABLES = ("1,0; 0,1", "0,10", "0,0,0", "0", "", " ", "0,0;0,1", "0,0; ", "null", TWELVE + "; 9,9",
             "; ".join(["0,0"] * 13), "same", "- ", " -", "--")

NO_FILTERS = ("p", "", "less 0 10", "less 2 0", "same same", "not", " same", "same ", "not " * 20 + "same", "0,0", "-")

WRONG_LINES = (
    "", " ", "left", "right", "left ", "right ", "left  -", "right  -", "left -\n", "Left -", "LEFT -", "left,-", "left\t-",
    "left-", "left: -", "leftright -", "lef -", " left -", "left left -", "swap ", " swap", "swap -", "swap swap", "Swap",
    "union ", " union", "union -", "union 0,0", "unions", "Union", "UNION", "join", "project", "distinct", "pairs",
    "select", "selection same", "select  same", "Select same", " select same", "select\tsame", "selectsame",
    "show ", " show", "Show", "show left", "show right", "count ", "count left", "total ", "total right", "undo",
    "not in", "not_in ", "anti join", "semi join", "equal 0 0", "same", "-", "0,0", "null", "plus", "and", "or", "not",
    "show\n", "swap\n", "union\n", "total\r", "\ud800", "left \ud800", "left null,\u0660",
) + tuple(f"{word} {text}" for word in ("left", "right") for text in NO_TABLES) + tuple(
    f"select {text}" for text in NO_FILTERS)


def desk_with(semantics, *lines):
    desk = Desk(semantics)
    for line in lines:
        desk.run(line)
    return desk


def tables_of(desk):
    return desk.left, desk.right


def row_of(text):
    return tuple(None if word == "null" else int(word) for word in text.split(","))


class Model:
    """A desk once more, that keeps all pairs of tables."""

    def __init__(self, semantics):
        self.semantics = semantics
        self.pairs = [((), ())]

    def run(self, line):
        """The result of a line, or the error that it raises."""
        left, right = self.pairs[-1]
        word, _, text = line.partition(" ")
        if word == "undo":
            if len(self.pairs) == 1:
                return NothingToUndo
            self.pairs.pop()
            return None
        if word in ("show", "count", "total"):
            return {"show": write_table(self.semantics, left), "count": str(len(left)),
                    "total": str(algebra.total(self.semantics, left)).replace("None", "null")}[word]
        if word in ("left", "right"):
            rows = () if text == "-" else tuple(row_of(row) for row in text.split("; "))
            if not is_table(self.semantics, rows):
                return InvalidText
            left, right = (rows, right) if word == "left" else (left, rows)
        elif word == "swap":
            left, right = right, left
        elif word == "select":
            left = algebra.select(self.semantics, left, read_filter(text))
        else:
            left = getattr(algebra, word)(self.semantics, left, right)
            if len(left) > 12:
                return NotNow
        self.pairs.append((left, right))
        return None


class ExampleTest(unittest.TestCase):
    def test_example(self):
        desk = Desk(("bag", "sum", "count", "unknown", "null"))
        self.assertEqual(
            [desk.run("left null,1; 4,2; 4,2"), desk.run("right 4,2; 9,0"), desk.run("difference"), desk.run("show"),
             desk.run("total"), desk.undo(), desk.left],
            [None, None, None, 'null,1; 4,2', '3', None, ((None, 1), (4, 2), (4, 2))],
        )
        with self.assertRaises(InvalidText):
            desk.run("select p")

    def test_defined_in_their_file(self):
        self.assertEqual(Desk.__module__, desks.__name__)
        for name in ("run", "undo", "left", "right"):
            self.assertIn(name, vars(Desk))
        for name in ("left", "right"):
            self.assertIsInstance(vars(Desk)[name], property)


class LineTest(unittest.TestCase):
    def test_at_first(self):
        for semantics in all_semantics():
            desk = Desk(semantics)
            self.assertEqual(tables_of(desk), ((), ()))
            self.assertEqual([desk.run("show"), desk.run("count")], ["-", "0"])
            self.assertEqual(desk.run("total"), "null" if semantics[4] == "null" else "0")

    def test_left_and_right(self):
        for semantics in all_semantics():
            desk = Desk(semantics)
            self.assertIsNone(desk.run("left 0,1; 2,3"))
            self.assertEqual(tables_of(desk), (((0, 1), (2, 3)), ()))
            self.assertIsNone(desk.run("right 4,5"))
            self.assertEqual(tables_of(desk), (((0, 1), (2, 3)), ((4, 5),)))
            self.assertIsNone(desk.run("left -"))
            self.assertEqual(tables_of(desk), ((), ((4, 5),)))
            self.assertIsNone(desk.run("right " + TWELVE))
            self.assertEqual(len(desk.right), 12)
            self.assertEqual(desk.left, ())

    def test_swap(self):
        desk = desk_with(SQL, "left 0,0; 0,0", "right null,1")
        self.assertIsNone(desk.run("swap"))
        self.assertEqual(tables_of(desk), (((None, 1),), ((0, 0), (0, 0))))
        self.assertIsNone(desk.run("swap"))
        self.assertEqual(tables_of(desk), (((0, 0), (0, 0)), ((None, 1),)))

    def test_operations(self):
        for semantics in all_semantics():
            for left, right in itertools.product(("-", "0,0", "0,1; 2,2", "0,0; 0,1; 3,3"), repeat=2):
                for word in OF_BOTH:
                    desk = desk_with(semantics, f"left {left}", f"right {right}")
                    expected = getattr(algebra, word)(semantics, desk.left, desk.right), desk.right
                    self.assertIsNone(desk.run(word))
                    self.assertEqual(tables_of(desk), expected, (semantics, left, right, word))

    def test_operations_and_nulls(self):
        for semantics, word, expected in (
            (SQL, "semijoin", "1,1"), (SQL, "antijoin", "null,1; 0,0"), (SQL, "not_in", "-"),
            (VALUE, "semijoin", "null,1; 1,1"), (VALUE, "antijoin", "0,0"), (VALUE, "not_in", "0,0"),
        ):
            desk = desk_with(semantics, "left null,1; 0,0; 1,1", "right null,0; 1,0")
            self.assertIsNone(desk.run(word))
            self.assertEqual(desk.run("show"), expected)
            self.assertEqual(desk.right, ((None, 0), (1, 0)))

    def test_select(self):
        desk = desk_with(SQL, "left null,1; 0,0; 4,2; 4,2", "right 1,1")
        self.assertIsNone(desk.run("select not less 0 3"))
        self.assertEqual(tables_of(desk), (((4, 2), (4, 2)), ((1, 1),)))
        desk = desk_with(VALUE, "left null,1; 0,0; 4,2; 4,2")
        desk.run("select or same null 0")
        self.assertEqual(desk.left, ((None, 1), (0, 0)))
        desk.run("select " + "not " * 19 + "same")
        self.assertEqual(desk.left, ((None, 1),))

    def test_show_count_and_total(self):
        for semantics, lines, shown in (
            (SQL, ("left null,3; 0,null; 4,2; 4,2",), ["null,3; 0,null; 4,2; 4,2", "4", "7"]),
            (SQL, ("left null,null; 0,null",), ["null,null; 0,null", "2", "null"]),
            (SQL[:4] + ("zero",), ("left null,null; 0,null",), ["null,null; 0,null", "2", "0"]),
            (NONE, ("left 0,0",), ["0,0", "1", "0"]),
            (SQL, ("left " + "; ".join(["9,9"] * 12),), ["; ".join(["9,9"] * 12), "12", "108"]),
            (SQL, ("right 9,9",), ["-", "0", "null"]),
        ):
            desk = desk_with(semantics, *lines)
            before = tables_of(desk)
            for _ in range(2):
                self.assertEqual([desk.run(word) for word in ("show", "count", "total")], shown)
            self.assertEqual(tables_of(desk), before)

    def test_desks_do_not_share_tables(self):
        one, other = Desk(SQL), Desk(SQL)
        one.run("left 0,0")
        self.assertEqual(tables_of(other), ((), ()))
        with self.assertRaises(NothingToUndo):
            other.undo()
        self.assertEqual(tables_of(one), (((0, 0),), ()))


class NotNowTest(unittest.TestCase):
    def test_more_than_twelve_rows(self):
        ten = "; ".join(f"0,{value}" for value in range(10))
        for semantics in all_semantics():
            desk = desk_with(semantics, f"left {ten}", "right 1,0; 1,1")
            self.assertIsNone(desk.run("union"))
            self.assertEqual(desk.run("count"), "12")
            desk = desk_with(semantics, f"left {ten}", "right 1,0; 1,1; 1,2")
            before = tables_of(desk)
            with self.assertRaises(NotNow):
                desk.run("union")
            self.assertEqual(tables_of(desk), before)
            desk.undo()
            self.assertEqual(tables_of(desk), (before[0], ()))

    def test_repeated_rows_count(self):
        lines = ("left " + TWELVE, "right 0,0")
        with self.assertRaises(NotNow):
            desk_with(SQL, *lines).run("union")
        for semantics in (MAXIMUM, SET):
            desk = desk_with(semantics, *lines)
            self.assertIsNone(desk.run("union"))
            self.assertEqual(desk.run("show"), TWELVE)

    def test_only_left_counts(self):
        desk = desk_with(SQL, "left 0,0", "right " + TWELVE)
        with self.assertRaises(NotNow):
            desk.run("union")
        desk.run("swap")
        for word in OF_BOTH[1:]:
            self.assertIsNone(desk.run(word))
            desk.undo()
        self.assertEqual(desk.run("show"), TWELVE)

    def test_too_many_rows_in_a_line_are_no_table(self):
        for word in ("left", "right"):
            with self.assertRaises(InvalidText):
                Desk(SQL).run(f"{word} {TWELVE}; 9,9")


class UndoTest(unittest.TestCase):
    def test_each_line(self):
        for line in OF_BOTH + ("left 5,5", "right 5,5", "left -", "right -", "swap", "select equal 0 0"):
            desk = desk_with(SQL, "left 0,0; 1,1; 1,1", "right 1,1; 2,2")
            before = tables_of(desk)
            self.assertIsNone(desk.run(line))
            self.assertNotEqual(tables_of(desk), before, line)
            self.assertIsNone(desk.undo())
            self.assertEqual(tables_of(desk), before, line)
            desk.undo()
            self.assertEqual(tables_of(desk), (before[0], ()))
            desk.undo()
            self.assertEqual(tables_of(desk), ((), ()))
            with self.assertRaises(NothingToUndo):
                desk.undo()

    def test_lines_that_change_nothing_are_taken_back_too(self):
        for line in OF_BOTH + ("swap", "select same", "left 1,1", "right 1,1"):
            desk = desk_with(MAXIMUM, "left 1,1", "right 1,1")
            # Differences and antijoins have an effect here, the other lines none.
            desk.run(line)
            desk.undo()
            self.assertEqual(tables_of(desk), (((1, 1),), ((1, 1),)), line)
            desk.undo()
            self.assertEqual(tables_of(desk), (((1, 1),), ()), line)
        desk = desk_with(SQL, "left -", "swap", "union")
        for _ in range(3):
            self.assertIsNone(desk.undo())
        with self.assertRaises(NothingToUndo):
            desk.undo()

    def test_lines_that_return_a_string_are_not_taken_back(self):
        desk = desk_with(SQL, "left 0,0", "show", "count", "total")
        self.assertIsNone(desk.undo())
        self.assertEqual(desk.left, ())
        with self.assertRaises(NothingToUndo):
            desk.undo()
        desk = desk_with(SQL, "show", "count", "total")
        with self.assertRaises(NothingToUndo):
            desk.undo()

    def test_nothing_to_undo(self):
        for semantics in all_semantics():
            desk = Desk(semantics)
            for _ in range(2):
                with self.assertRaises(NothingToUndo):
                    desk.undo()
            desk.run("left 0,0")
            self.assertEqual(desk.left, ((0, 0),))
            desk.undo()
            with self.assertRaises(NothingToUndo):
                desk.undo()
            self.assertEqual(tables_of(desk), ((), ()))

    def test_lines_after_undo(self):
        desk = desk_with(SQL, "left 0,0", "left 1,1")
        desk.undo()
        desk.run("left 2,2")
        self.assertEqual(desk.left, ((2, 2),))
        for expected in (((0, 0),), ()):
            desk.undo()
            self.assertEqual(desk.left, expected)

    def test_many_lines(self):
        desk = desk_with(SQL, *[f"left {n % 10},{n // 10 % 10}" for n in range(500)])
        for n in range(499, -1, -1):
            self.assertEqual(desk.left, ((n % 10, n // 10 % 10),))
            desk.undo()
        with self.assertRaises(NothingToUndo):
            desk.undo()


class SequenceTest(unittest.TestCase):
    LINES = ("left 0,0; 1,2", "left 1,2; 1,2", "right 1,2; null,1", "right 0,1; 1,2", "right null,1", "left " + TWELVE,
             "swap", "union", "difference", "not_in", "select less 0 1", "undo", "total")

    def test_agrees_with_a_model(self):
        for semantics in (SQL, SET, NONE, VALUE, MAXIMUM, ("bag", "sum", "kind", "value", "zero")):
            for lines in itertools.product(self.LINES, repeat=3):
                desk, model = Desk(semantics), Model(semantics)
                for line in ("right 0,0; 1,1",) + lines + ("show", "swap", "undo", "undo"):
                    try:
                        found = desk.undo() if line == "undo" else desk.run(line)
                    except (InvalidText, NotNow, NothingToUndo) as error:
                        found = error.__class__
                    self.assertEqual(found, model.run(line), (semantics, lines, line))
                    self.assertEqual(tables_of(desk), model.pairs[-1], (semantics, lines, line))


class WrongInputTest(unittest.TestCase):
    def assert_unchanged(self, semantics, line, error):
        desk = desk_with(semantics, "left 1,1", "right 2,2; 3,3")
        for _ in range(2):
            with self.assertRaises(error):
                desk.run(line)
        self.assertEqual(tables_of(desk), (((1, 1),), ((2, 2), (3, 3))))
        desk.undo()
        self.assertEqual(tables_of(desk), (((1, 1),), ()))
        desk.undo()
        self.assertEqual(tables_of(desk), ((), ()))
        with self.assertRaises(NothingToUndo):
            desk.undo()

    def test_bad_semantics(self):
        for value in STRANGE + (SQL[:4], SQL + ("null",), list(SQL), SQL[::-1]):
            with self.assertRaises(BadSemantics):
                Desk(value)

    def test_no_text(self):
        for value in STRANGE + (b"swap", ("swap",), ["swap"]):
            if not isinstance(value, str):
                self.assert_unchanged(SQL, value, NotText)

    def test_other_lines(self):
        for line in WRONG_LINES + tuple(value for value in STRANGE if isinstance(value, str)):
            for semantics in (SQL, NONE, SET):
                self.assert_unchanged(semantics, line, InvalidText)

    def test_each_word_needs_its_own_text(self):
        for word in OF_BOTH + ("swap", "show", "count", "total"):
            for rest in (" ", " -", " same", " 0,0", "\n", " " + word):
                self.assert_unchanged(SQL, word + rest, InvalidText)
        for word in ("left", "right", "select"):
            for rest in ("", " ", "\n", " " + word):
                self.assert_unchanged(SQL, word + rest, InvalidText)

    def test_rows_that_are_no_table_under_the_semantics(self):
        for word in ("left", "right"):
            self.assert_unchanged(SET, f"{word} 0,0; 0,0", InvalidText)
            self.assertIsNone(Desk(SQL).run(f"{word} 0,0; 0,0"))
            for text in ("null,0", "0,null"):
                self.assert_unchanged(NONE, f"{word} {text}", InvalidText)
                self.assertIsNone(Desk(SQL).run(f"{word} {text}"))

    def test_filters_with_null_are_allowed_under_all_semantics(self):
        for semantics in all_semantics():
            desk = desk_with(semantics, "left 0,0; 1,0")
            self.assertIsNone(desk.run("select not null 0"))
            self.assertEqual(desk.left, ((0, 0), (1, 0)))
            self.assertIsNone(desk.run("select null 0"))
            self.assertEqual(desk.left, ())

    def test_filters_as_texts(self):
        for filter_ in FILTERS:
            desk = desk_with(SQL, "left null,1; 0,0; 0,1")
            desk.run("select " + " ".join(str(part) for part in flat(filter_)))
            self.assertEqual(desk.left, algebra.select(SQL, ((None, 1), (0, 0), (0, 1)), filter_))


def flat(part):
    return [inner for piece in part for inner in flat(piece)] if isinstance(part, tuple) else [part]


if __name__ == "__main__":
    unittest.main()
