"""The errors of the package.

Their messages never show the values that they keep: an integer may be too long for Python to write out.
"""


class ShadeError(ValueError):
    """What all errors of the package have in common."""


class BadProperty(ShadeError):
    """Not one of the six words of properties."""

    def __init__(self, word):
        super().__init__("not a property")
        self.word = word


class BadWord(ShadeError):
    """Not one of the five words of known tables."""

    def __init__(self, word):
        super().__init__("not the word of a known table")
        self.word = word


class BadStep(ShadeError):
    """The value is not a step."""

    def __init__(self, step):
        super().__init__("not a step")
        self.step = step


class Ended(ShadeError):
    """The state is ended: no step is possible."""

    def __init__(self):
        super().__init__()


class NoThread(ShadeError):
    """There is no thread of this number."""

    def __init__(self, thread):
        super().__init__("no such thread")
        self.thread = thread


class NoObject(ShadeError):
    """There is no object of this number."""

    def __init__(self, number):
        super().__init__("no such object")
        self.number = number


class NotHeld(ShadeError):
    """The thread does not hold the object."""

    def __init__(self, number):
        super().__init__("the thread does not hold this object")
        self.number = number


class NoSlot(ShadeError):
    """The objects have no slot of this number."""

    def __init__(self, slot):
        super().__init__("no such slot")
        self.slot = slot


class EmptySlot(ShadeError):
    """The slot has None, so nothing can be loaded from it."""

    def __init__(self, slot):
        super().__init__("nothing is in this slot")
        self.slot = slot


class Full(ShadeError):
    """There are as many objects as a heap can have."""

    def __init__(self):
        super().__init__()


class Visited(ShadeError):
    """The thread is scanned and the table does not rescan."""

    def __init__(self, thread):
        super().__init__("the thread is scanned already")
        self.thread = thread


class NotGrey(ShadeError):
    """The object is not grey."""

    def __init__(self, number):
        super().__init__("this object is not grey")
        self.number = number


class Broken(ShadeError):
    """The property does not hold for the table."""

    def __init__(self, word):
        super().__init__("the property does not hold")
        self.word = word


class BadTable(ShadeError):
    """The value is not a table."""

    def __init__(self, value):
        super().__init__("not a table")
        self.value = value


class BadHeap(ShadeError):
    """The value is not a heap."""

    def __init__(self, value):
        super().__init__("not a heap")
        self.value = value


class NothingToUndo(ShadeError):
    """All steps that were made were taken back."""

    def __init__(self):
        super().__init__()


class BadText(ShadeError):
    """A row of a text can't stand there, or is missing."""

    def __init__(self, row):
        super().__init__("a row can't stand there, or is missing")
        self.row = row


class BadLine(ShadeError):
    """The value is not a line that a desk understands."""

    def __init__(self, line):
        super().__init__("not a line of a desk")
        self.line = line


class NoMachine(ShadeError):
    """The desk has no machine yet."""

    def __init__(self):
        super().__init__()
