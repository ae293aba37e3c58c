"""All errors of the package."""


class JoinError(ValueError):
    """Something that was passed is not of the form that is asked for."""


class InvalidQuestion(JoinError):
    """There is no such question."""


class InvalidClause(JoinError):
    """No clause, or none that fits here."""


class InvalidStore(JoinError):
    """There is no such store."""


class InvalidTable(JoinError):
    """No table, or none that fits here."""


class InvalidRow(JoinError):
    """No row, or none that fits here."""


class InvalidReading(JoinError):
    """No reading of the question in the store."""


class InvalidMap(JoinError):
    """No map."""


class InvalidKnot(JoinError):
    """No knot."""


class InvalidProgram(JoinError):
    """No program of strikes."""


class InvalidOrder(JoinError):
    """No order of columns."""


class InvalidBags(JoinError):
    """No bags."""


class InvalidLine(JoinError):
    """No line of clauses."""


class InvalidScheme(JoinError):
    """There is no such scheme."""


class InvalidRule(JoinError):
    """No rule, or none that fits here."""


class InvalidSplit(JoinError):
    """No split of the scheme."""


class InvalidForest(JoinError):
    """No forest of columns."""


class InvalidSizes(JoinError):
    """No sizes of the tables."""


class InvalidKeys(JoinError):
    """No keys of the tables."""


class InvalidWeights(JoinError):
    """No weights of the sort that is asked for."""


class InvalidOperation(JoinError):
    """This cannot be done with these values."""


class ParseError(JoinError):
    """A text, or the line with this index, tells nothing."""

    def __init__(self, number):
        self.number = number


class UnknownName(KeyError):
    """A word that is looked up is not there."""

    def __init__(self, word):
        self.word = word


class NotLayered(LookupError):
    """An order is not layered, for this reason."""

    def __init__(self, reason):
        self.reason = reason


class InvalidNumber(IndexError):
    """A value is no number of the range that is asked for."""

    def __init__(self, value):
        self.value = value


class NothingToUndo(RuntimeError):
    """There are not so many changes to take back or to do again."""

    def __init__(self, many):
        self.many = many


class TooMany(OverflowError):
    """There are more than this limit lets."""

    def __init__(self, limit):
        self.limit = limit


class Refused(ArithmeticError):
    """A change would break this pledge."""

    def __init__(self, pledge):
        self.pledge = pledge
