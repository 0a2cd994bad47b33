"""Needless marks: what a table has that a property does not need."""

from shadebarriers.errors import Broken
from shadebarriers.judging import holds


def needless(table, word):
    """The ascending tuple of the marks without each of which, alone, a property holds; raises Broken."""
    _check_holds(table, word)
    marks, rescans = table
    return tuple([mark for mark in marks if holds((_without(marks, mark), rescans), word)])


def needs_rescan(table, word):
    """Whether a property does not hold for the table with the same marks that does not rescan; raises Broken."""
    _check_holds(table, word)
    marks, _ = table
    return not holds((marks, False), word)


def least(table, word):
    """The table without the marks, from the last to the first, that a property does not need; raises Broken."""
    _check_holds(table, word)
    marks, rescans = table
    left = marks
    for mark in reversed(marks):
        fewer = _without(left, mark)
        if holds((fewer, rescans), word):
            left = fewer
    return (left, rescans)


def _check_holds(table, word):
    if not holds(table, word):
        raise Broken(word)


def _without(marks, mark):
    return tuple([other for other in marks if other != mark])
