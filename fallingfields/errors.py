"""The errors of this package: each stands directly under FieldsError, and keeps what it was made with."""

# A copy of an error is made with the words that it was made with: if an __init__ without arguments
# handed words on there could be no copy. So the errors without arguments tell their words by __str__.


class FieldsError(ValueError):
    """Any error of this package."""


class Unfit(FieldsError):
    """What was passed does not fit this call."""

    def __str__(self):
        return "what was passed does not fit this call"


class BadText(FieldsError):
    """The value is not the text that is read here."""

    def __str__(self):
        return "the value is not the text of what is read here"


class BadBook(FieldsError):
    """The value is no book; error is what book_error tells of it."""

    def __init__(self, error):
        super().__init__("the value is no book")
        self.error = error


class TooMany(FieldsError):
    """Something is above limit."""

    def __init__(self, limit):
        super().__init__("a limit is passed")
        self.limit = limit


class Level(FieldsError):
    """The book is level, so no layout is smaller than by every order."""

    def __str__(self):
        return "the book is level"


class Unlevel(FieldsError):
    """The book is not level; pair is what level_error tells of it."""

    def __init__(self, pair):
        super().__init__("the book is not level")
        self.pair = pair


class Few(FieldsError):
    """The record has of no kind as many fields as are needed."""

    def __str__(self):
        return "the record has of no kind as many fields as are needed"


class TooManyEdits(FieldsError):
    """As many edits stand as may."""

    def __str__(self):
        return "as many edits stand as may"


class NothingToUndo(FieldsError):
    """No edit stands."""

    def __str__(self):
        return "there is no edit to take back"


class NothingToRedo(FieldsError):
    """No edit was taken back."""

    def __str__(self):
        return "there is no edit to do again"


class NoVersion(FieldsError):
    """There is no such version as the one given."""

    def __init__(self, given):
        super().__init__("there is no such version")
        self.given = given


class BadLog(FieldsError):
    """The log cannot be done; place is where its first wrong item stands."""

    def __init__(self, place):
        super().__init__("the log has a wrong item, or is none")
        self.place = place
