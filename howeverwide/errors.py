"""The errors of this package: each names what was wrong by its class and its field."""


class ClaimError(ValueError):
    """What all errors of this package are."""


class InvalidNumber(ClaimError):
    """What should be a certain number, or a list of numbers, is none."""

    def __init__(self, value=None):
        self.value = value


class InvalidName(ClaimError):
    """What should be a name, or one of the words that are asked, is none."""

    def __init__(self, value=None):
        self.value = value


class InvalidWidth(ClaimError):
    """What should be a width is none."""

    def __init__(self, value=None):
        self.value = value


class InvalidWord(ClaimError):
    """What should be a word, or a list of words, of a width is none."""

    def __init__(self, value=None):
        self.value = value


class InvalidExpression(ClaimError):
    """What should be an expression is none."""

    def __init__(self, value=None):
        self.value = value


class InvalidClaim(ClaimError):
    """What should be a claim, or an atom, is none."""

    def __init__(self, value=None):
        self.value = value


class InvalidClaims(ClaimError):
    """What should be a list of claims is none."""

    def __init__(self, value=None):
        self.value = value


class InvalidFilling(ClaimError):
    """What should be a filling of certain names at a width is none."""

    def __init__(self, value=None):
        self.value = value


class InvalidTable(ClaimError):
    """What should be a table is none."""

    def __init__(self, value=None):
        self.value = value


class InvalidNames(ClaimError):
    """What should be a list of certain names is none."""

    def __init__(self, value=None):
        self.value = value


class InvalidWidths(ClaimError):
    """What should be a set of widths is none."""

    def __init__(self, value=None):
        self.value = value


class InvalidPaper(ClaimError):
    """What should be a right paper is none."""

    def __init__(self, value=None):
        self.value = value


class InvalidMachine(ClaimError):
    """What should be a machine is none."""

    def __init__(self, value=None):
        self.value = value


class InvalidText(ClaimError):
    """What should be a certain text is none."""

    def __init__(self, value=None):
        self.value = value


class InvalidDeed(ClaimError):
    """What should be a deed that can be done now is none."""

    def __init__(self, value=None):
        self.value = value


class Unlike(ClaimError):
    """What should go with something else does not."""

    def __init__(self, value=None):
        self.value = value


class TooMany(ClaimError):
    """More is on the way than is allowed."""

    def __init__(self, value=None):
        self.value = value


class NothingToUndo(ClaimError):
    """No deed is left that could be taken back."""


class NothingToRedo(ClaimError):
    """No deed is left that could be done again."""
