"""The errors of the package, each a direct subclass of FitError."""


class FitError(Exception):
    """The base class of all errors of the package."""


class BadTable(FitError):
    """A value that is no table."""

    def __init__(self, thing):
        self.thing = thing


class BadRule(FitError):
    """A value that is no rule."""

    def __init__(self, thing):
        self.thing = thing


class BadStars(FitError):
    """A value that is no grid, or no star table."""

    def __init__(self, thing):
        self.thing = thing


class BadKind(FitError):
    """A value that is no kind."""

    def __init__(self, thing):
        self.thing = thing


class BadRow(FitError):
    """A value that is no row."""

    def __init__(self, thing):
        self.thing = thing


class BadPlace(FitError):
    """A value that is no place, or no number of times."""

    def __init__(self, thing):
        self.thing = thing


class BadOrder(FitError):
    """A value that is no order."""

    def __init__(self, thing):
        self.thing = thing


class BadHeap(FitError):
    """A value that is no heap of the kind that is asked for."""

    def __init__(self, thing):
        self.thing = thing


class BadMotion(FitError):
    """A value that is no motion."""

    def __init__(self, thing):
        self.thing = thing


class BadWord(FitError):
    """A value that is no word, or no letter."""

    def __init__(self, thing):
        self.thing = thing


class BadSteps(FitError):
    """A value that is no steps form."""

    def __init__(self, thing):
        self.thing = thing


class BadTurn(FitError):
    """A value that is no turn."""

    def __init__(self, thing):
        self.thing = thing


class BadNames(FitError):
    """A value that gives no names."""

    def __init__(self, thing):
        self.thing = thing


class BadLot(FitError):
    """A value that is no closed tuple of the kind that is asked for."""

    def __init__(self, thing):
        self.thing = thing


class BadTwoSum(FitError):
    """A value that is no two-sum."""

    def __init__(self, thing):
        self.thing = thing


class BadDeed(FitError):
    """A value that is no deed, or one that cannot be done."""

    def __init__(self, thing):
        self.thing = thing


class BadNumber(FitError):
    """A value that is no number of the kind that is asked for."""

    def __init__(self, thing):
        self.thing = thing


class BadText(FitError):
    """A value that is no text; `at` is the first wrong line, 0 without a string."""

    def __init__(self, at):
        self.at = at


class NotAlike(FitError):
    """Two rows that are not alike."""


class NoRest(FitError):
    """A row that does not divide another one."""


class NoFold(FitError):
    """A rule that no fold changes."""


class TooLong(FitError):
    """Something that has no more room."""


class NothingToUndo(FitError):
    """A desk without a deed that can be undone."""


class NothingToRedo(FitError):
    """A desk without a deed that can be done again."""
