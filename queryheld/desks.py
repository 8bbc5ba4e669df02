"""A desk: two tables that are changed and shown line by line."""

from queryheld.errors import InvalidText, NothingToUndo, NotNow
from queryheld.operations import OPERATIONS, selection_of, total_of
from queryheld.tables import MOST_ROWS, check_semantics
from queryheld.texts import check_text, read_filter, read_table, value_text, write_table

# The operations on left and right that are a line of their own.
OF_BOTH = ("union", "intersection", "difference", "semijoin", "antijoin", "not_in")


class Desk:
    """Two tables, left and right, under one semantics, and what they were before each line."""

    def __init__(self, semantics):
        check_semantics(semantics)
        self._semantics = semantics
        self._tables = ((), ())
        self._earlier = []

    @property
    def left(self):
        """The left table."""
        return self._tables[0]

    @property
    def right(self):
        """The right table."""
        return self._tables[1]

    def run(self, line):
        """Carry out a line: return a string if it asks for one, otherwise change the tables."""
        check_text(line)
        if line == "show":
            return write_table(self._semantics, self.left)
        if line == "count":
            return str(len(self.left))
        if line == "total":
            return value_text(total_of(self._semantics, self.left))
        # Nothing is set before the line has turned out to be right.
        tables = self._tables_after(line)
        self._earlier.append(self._tables)
        self._tables = tables
        return None

    def _tables_after(self, line):
        if line == "swap":
            return (self.right, self.left)
        if line in OF_BOTH:
            return (self._result(line), self.right)
        word, _, text = line.partition(" ")
        if word == "left":
            return (read_table(self._semantics, text), self.right)
        if word == "right":
            return (self.left, read_table(self._semantics, text))
        if word == "select":
            return (selection_of(self._semantics, self.left, read_filter(text)), self.right)
        raise InvalidText("not a line")

    def _result(self, word):
        operation = OPERATIONS[word]
        rows = operation(self._semantics, self.left, self.right)
        if len(rows) > MOST_ROWS:
            raise NotNow("left would have too many rows")
        return rows

    def undo(self):
        """Take back the last line that returned None."""
        if len(self._earlier) == 0:
            raise NothingToUndo("no line is left")
        self._tables = self._earlier.pop()
