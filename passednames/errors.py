"""All errors of the package. What an error is about is its attribute."""


class PassError(ValueError):
    """What all errors of the package are."""


class BadName(PassError):
    """A value is no name."""

    def __init__(self, value):
        self.value = value


class BadPiece(PassError):
    """What stands at a path is no piece that may stand there."""

    def __init__(self, path):
        self.path = path


class BadProgram(PassError):
    """A program, its definitions or one of them is not as told."""

    def __init__(self, place):
        self.place = place


class BadGiven(PassError):
    """A value is no row of ten names."""

    def __init__(self, value):
        self.value = value


class BadStanding(PassError):
    """A value is no standing of a program."""

    def __init__(self, place):
        self.place = place


class BadMove(PassError):
    """What is wanted is no move."""

    def __init__(self, value):
        self.value = value


class BadJoining(PassError):
    """A value is no joining of so many things."""

    def __init__(self, value):
        self.value = value


class BadMatching(PassError):
    """A value is no matching of two standings."""

    def __init__(self, value):
        self.value = value


class BadLikeness(PassError):
    """A value is no likeness that is known here."""

    def __init__(self, value):
        self.value = value


class BadPaper(PassError):
    """A paper is not as told."""

    def __init__(self, word):
        self.word = word


class BadSentence(PassError):
    """A value is no sentence."""

    def __init__(self, path):
        self.path = path


class BadSurrounding(PassError):
    """A program has not exactly one hole."""

    def __init__(self, path):
        self.path = path


class BadForm(PassError):
    """A value is no form."""

    def __init__(self, place):
        self.place = place


class BadRule(PassError):
    """A value is no step by a rule."""

    def __init__(self, value):
        self.value = value


class BadStep(PassError):
    """A step can not be made where it stands."""

    def __init__(self, place):
        self.place = place


class BadKinds(PassError):
    """The kinds of names do not fit together."""

    def __init__(self, place):
        self.place = place


class BadText(PassError):
    """A text can not be read."""

    def __init__(self, line, word):
        self.line = line
        self.word = word


class BadIndex(PassError):
    """Nothing has this path or this index."""

    def __init__(self, value):
        self.value = value


class BadParameter(PassError):
    """A parameter is not of the kind that is told."""

    def __init__(self, value):
        self.value = value


class NotFinite(PassError):
    """A call stands where a finite program is wanted."""

    def __init__(self, path):
        self.path = path


class NotOpen(PassError):
    """An unlike stands where no such test is let."""

    def __init__(self, path):
        self.path = path


class NoMove(PassError):
    """There is no move, run or round that does what is wanted."""


class Unlike(PassError):
    """What is to be shown does not hold."""

    def __init__(self, value):
        self.value = value


class TooGreat(PassError):
    """A told number is greater than the most that is let."""

    def __init__(self, most):
        self.most = most


class NothingBack(PassError):
    """There is no deed to take back."""


class BadDeed(PassError):
    """A value is no deed."""

    def __init__(self, place):
        self.place = place
