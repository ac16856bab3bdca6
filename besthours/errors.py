"""The errors of Besthours: each has its arguments as attributes."""


class HourError(ValueError):
    """What all errors of Besthours are."""


class BadDays(HourError):
    """The value isn't DAYS."""

    def __init__(self, value):
        self.value = value


class BadSet(HourError):
    """The value isn't a SET."""

    def __init__(self, value):
        self.value = value


class BadRule(HourError):
    """The rule is wrong at the place."""

    def __init__(self, place):
        self.place = place


class BadBook(HourError):
    """The book is wrong at the place."""

    def __init__(self, place):
        self.place = place


class BadPlan(HourError):
    """The plan is wrong at the place."""

    def __init__(self, place):
        self.place = place


class BadQuestion(HourError):
    """The question is wrong at the place."""

    def __init__(self, place):
        self.place = place


class BadSum(HourError):
    """The value isn't a sum."""

    def __init__(self, value):
        self.value = value


class BadProof(HourError):
    """The proof is wrong at the place."""

    def __init__(self, place):
        self.place = place


class BadPeriods(HourError):
    """The periods or beats are wrong at the place."""

    def __init__(self, place):
        self.place = place


class BadDeed(HourError):
    """The deed or state is wrong at the place."""

    def __init__(self, place):
        self.place = place


class BadText(HourError):
    """The text is wrong at the word with this number of the line with this number."""

    def __init__(self, line, word):
        self.line = line
        self.word = word


class BadParameter(HourError):
    """The value isn't what the parameter asks for."""

    def __init__(self, value):
        self.value = value


class NoRow(HourError):
    """There is nothing of the kind that is asked for."""


class Unlike(HourError):
    """The value doesn't keep what it should keep."""

    def __init__(self, value):
        self.value = value


class TooGreat(HourError):
    """There is more of something than the most that is let."""

    def __init__(self, most):
        self.most = most
