"""The refusals: what is handed in and can't be."""


class NestError(ValueError):
    """Any refusal."""


class BadProgram(NestError):
    """A program that can't be: the function and the place at which this is met, and the word for it."""

    def __init__(self, function, place, word):
        super().__init__(f"function {function}, place {place}: {word}")
        self.function = function
        self.place = place
        self.word = word


class NoFunction(NestError):
    """The program has no function of this number."""


class BadWorth(NestError):
    """A worth that can't be, lacks, or is too much."""

    def __init__(self, number):
        super().__init__(f"worth {number}")
        self.number = number


class BadText(NestError):
    """A text with a word that can't stand where it stands, or that lacks one."""

    def __init__(self, row, place):
        super().__init__(f"row {row}, place {place}")
        self.row = row
        self.place = place
