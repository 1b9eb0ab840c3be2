"""The errors of the program."""


class NotelessError(ValueError):
    """The base class of all errors of the program."""


class InvalidText(NotelessError):
    """A text is not the text of a wish or of a board."""

    def __init__(self, line):
        super().__init__(f"line {line} breaks a rule")
        self.line = line


class InvalidWish(NotelessError):
    """Letters, targets, marks or a start that make no wish."""


class UnknownStep(NotelessError):
    """A wish has no transition of this state and letter."""


class UnknownLetter(NotelessError):
    """A word contains a character that is not a letter of the wish."""

    def __init__(self, letter):
        super().__init__(f"{letter!r} is not a letter of the wish")
        self.letter = letter


class InvalidLasso(NotelessError):
    """The loop of a lasso is empty."""


class LettersDiffer(NotelessError):
    """Two wishes have different letters."""


class TooLarge(NotelessError):
    """A wish would have too many states."""


class BoardError(NotelessError):
    """The base class of the errors of a step on a board."""

    def __init__(self, place):
        super().__init__(f"refused at place {place!r}")
        self.place = place


class InvalidPlace(BoardError):
    """A name or an owner is not valid, or there is no room for a place."""


class InvalidWays(BoardError):
    """The ways of a place are not valid."""


class UnknownPlace(BoardError):
    """The board has no such place."""


class PlaceInUse(BoardError):
    """A way of another place leads to the place."""


class InvalidDeed(NotelessError):
    """A deed in a list of deeds is refused."""

    def __init__(self, position, place):
        super().__init__(f"deed {position}, at place {place!r}, is refused")
        self.position = position
        self.place = place


class InvalidPlan(NotelessError):
    """A plan has no index, or no index of a way, for a place."""

    def __init__(self, place):
        super().__init__(f"the plan has no way out of place {place!r}")
        self.place = place


class InvalidMove(NotelessError):
    """A player names no way of the place at which it is asked."""

    def __init__(self, place):
        super().__init__(f"no way is picked at place {place!r}")
        self.place = place


class NotesNeeded(NotelessError):
    """A wish needs notes, so no single plan is enough for it."""

    def __init__(self, kind):
        super().__init__(f"the wish needs notes: {kind}")
        self.kind = kind
