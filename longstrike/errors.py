"""The errors of the package: what went wrong is told by the class and its attributes.

The messages do not show the attributes, as these may be any objects.
"""


class StrikeError(ValueError):
    """The base of all errors of the package."""


class BadName(StrikeError):
    """An object stands where a name must stand."""

    def __init__(self, name):
        super().__init__("this is not a name")
        self.name = name


class NameInUse(StrikeError):
    """An earlier kind or column has this name."""

    def __init__(self, name):
        super().__init__("the name is in use")
        self.name = name


class UnknownKind(StrikeError):
    """The book has no such kind."""

    def __init__(self, kind):
        super().__init__("there is no such kind")
        self.kind = kind


class UnknownColumn(StrikeError):
    """The book, or the kind, has no such column."""

    def __init__(self, column):
        super().__init__("there is no such column")
        self.column = column


class BadRule(StrikeError):
    """The rule of a column is neither fall nor clear."""

    def __init__(self, rule):
        super().__init__("this is not a rule")
        self.rule = rule


class UnknownCheck(StrikeError):
    """The check is not in the menu of the book."""

    def __init__(self, check):
        super().__init__("there is no such check")
        self.check = check


class UnlikeBooks(StrikeError):
    """Two books are not of one shape."""

    def __init__(self):
        super().__init__("the books are not of one shape")


class BadNumber(StrikeError):
    """An object stands where a number must stand."""

    def __init__(self, number):
        super().__init__("this is not such a number")
        self.number = number


class Taken(StrikeError):
    """There is a row of this kind and number."""

    def __init__(self, kind, number):
        super().__init__("there is such a row")
        self.kind = kind
        self.number = number


class Used(StrikeError):
    """There once was a row of this kind and number."""

    def __init__(self, kind, number):
        super().__init__("there was such a row")
        self.kind = kind
        self.number = number


class NoRow(StrikeError):
    """There is no row of this kind and number."""

    def __init__(self, kind, number):
        super().__init__("there is no such row")
        self.kind = kind
        self.number = number


class OwnOwner(StrikeError):
    """A row would become its own owner."""

    def __init__(self, column):
        super().__init__("a row is not its own owner")
        self.column = column


class Refused(StrikeError):
    """A check of the book refuses the deed."""

    def __init__(self, check):
        super().__init__("a check refuses this")
        self.check = check


class NotOpen(StrikeError):
    """Rows of this kind are not struck by strangers."""

    def __init__(self, kind):
        super().__init__("strangers do not strike this kind")
        self.kind = kind


class Busy(StrikeError):
    """The hand has a list already."""

    def __init__(self, hand):
        super().__init__("the hand has a list")
        self.hand = hand


class Idle(StrikeError):
    """The hand has no list."""

    def __init__(self, hand):
        super().__init__("the hand has no list")
        self.hand = hand


class BadPiece(StrikeError):
    """The book has no such piece."""

    def __init__(self, piece):
        super().__init__("there is no such piece")
        self.piece = piece


class BadList(StrikeError):
    """An object stands where a list of rows must stand."""

    def __init__(self, numbers):
        super().__init__("this is not a list for a piece")
        self.numbers = numbers


class NoFit(StrikeError):
    """The row does not fit for the piece."""

    def __init__(self, number):
        super().__init__("the row does not fit")
        self.number = number


class BadQuestion(StrikeError):
    """The book has no such question."""

    def __init__(self, question):
        super().__init__("there is no such question")
        self.question = question


class BadDeed(StrikeError):
    """An object stands where a deed must stand."""

    def __init__(self):
        super().__init__("this is not a deed")


class BadWeaving(StrikeError):
    """A deed of a weaving cannot be done."""

    def __init__(self, index):
        super().__init__("the weaving is bad")
        self.index = index


class NothingToUndo(StrikeError):
    """There is no deed that can be taken back."""

    def __init__(self):
        super().__init__("there is nothing to undo")


class NothingToRedo(StrikeError):
    """No deed that was taken back can be done again."""

    def __init__(self):
        super().__init__("there is nothing to redo")


class BadLine(StrikeError):
    """A line of a text has not the form that it must have."""

    def __init__(self, index):
        super().__init__("the line is bad")
        self.index = index
