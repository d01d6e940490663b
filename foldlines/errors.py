"""The errors of the package: each keeps the fields that it is made from."""


class InvalidFunctions(ValueError):
    """This value is no dict of functions."""

    def __init__(self, value):
        self.value = value


class InvalidInputs(ValueError):
    """This value is no list of numbers."""

    def __init__(self, value):
        self.value = value


class InvalidTable(ValueError):
    """This value is no right known table."""

    def __init__(self, value):
        self.value = value


class InvalidPlaces(ValueError):
    """These places cannot be taken for this."""

    def __init__(self, value):
        self.value = value


class InvalidLines(ValueError):
    """These lines cannot be taken for this."""

    def __init__(self, value):
        self.value = value


class InvalidStretch(ValueError):
    """The function has no such stretch of lines."""

    def __init__(self, value):
        self.value = value


class InvalidName(ValueError):
    """This value is no word, so it cannot be a name."""

    def __init__(self, value):
        self.value = value


class InvalidWord(ValueError):
    """This value is not the word of a pass."""

    def __init__(self, value):
        self.value = value


class InvalidLine(ValueError):
    """This line of this function is not one that may stand there."""

    def __init__(self, name, index):
        self.name = name
        self.index = index


class InvalidText(ValueError):
    """This line of a text is not one of the text of a program."""

    def __init__(self, index):
        self.index = index


class InvalidRow(ValueError):
    """This word of a row of passes cannot be followed."""

    def __init__(self, index):
        self.index = index


class InvalidGuard(ValueError):
    """This guard has none of the forms of a guard."""

    def __init__(self, index):
        self.index = index


class InvalidLog(ValueError):
    """This line of a log cannot be followed."""

    def __init__(self, line):
        self.line = line


class InvalidSay(ValueError):
    """This value is no row that a console knows."""

    def __init__(self, row):
        self.row = row


class Untidy(ValueError):
    """The function of this name is not tidy."""

    def __init__(self, name):
        self.name = name


class SameName(ValueError):
    """There is a function of this name."""

    def __init__(self, name):
        self.name = name


class NotStraight(ValueError):
    """The function of this name cannot go back to where it is called."""

    def __init__(self, name):
        self.name = name


class NotSwept(ValueError):
    """The program has lines, marks or functions that nothing comes to."""


class UnknownName(LookupError):
    """This value is not the name of a function of the program."""

    def __init__(self, value):
        self.value = value


class UnknownPlace(LookupError):
    """This value is not a place of the program."""

    def __init__(self, value):
        self.value = value


class OutOfRange(LookupError):
    """This value is not a number of steps that there are."""

    def __init__(self, value):
        self.value = value


class TooMany(OverflowError):
    """There are more functions or lines than this."""

    def __init__(self, limit):
        self.limit = limit


class Broken(RuntimeError):
    """This guard does not hold."""

    def __init__(self, index):
        self.index = index
