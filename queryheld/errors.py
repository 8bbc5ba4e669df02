"""The errors of the package."""


class QueryError(ValueError):
    """The base class of all errors."""


class BadSemantics(QueryError):
    """A value is no semantics."""


class BadTable(QueryError):
    """A value is no table; index is its number among the tables of the call, from 0."""

    def __init__(self, index):
        super().__init__(f"table {index} of the call is no table")
        self.index = index


class BadFilter(QueryError):
    """A value is no filter."""


class BadRow(QueryError):
    """A value is no row of two values."""


class BadExpression(QueryError):
    """A value is no expression; index is its number among the expressions of the call, from 0."""

    def __init__(self, index):
        super().__init__(f"expression {index} of the call is no expression")
        self.index = index


class BadCase(QueryError):
    """A value is no case."""


class BadIdentity(QueryError):
    """A value is no name of an identity."""


class BadArguments(QueryError):
    """A value is no tuple of arguments for an identity."""


class BadIdentities(QueryError):
    """A value is no tuple of different identities."""


class NotText(QueryError):
    """A value is no string."""


class InvalidText(QueryError):
    """A string is not a text of the kind that is asked for."""


class NotNow(QueryError):
    """A line cannot be run with the tables as they are."""


class NothingToUndo(QueryError):
    """No line is left that could be taken back."""
