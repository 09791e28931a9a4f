"""The errors that the program raises."""


class CutError(ValueError):
    """The base class of all errors of the program."""


class OnEdge(CutError):
    """Something is asked at a place where it is not told."""


class BadText(CutError):
    """A text has a line that cannot be read; `line` is its number, from 0 on."""

    def __init__(self, line):
        super().__init__(f"line {line} cannot be read")
        self.line = line


class NoSuchFigure(CutError):
    """A book has no figure of this name."""

    def __init__(self, name):
        super().__init__(f"there is no figure {name}")
        self.name = name


class WrongPaper(CutError):
    """A paper is not right; `fault` tells why."""

    def __init__(self, fault):
        super().__init__(f"the paper has the fault {fault}")
        self.fault = fault
