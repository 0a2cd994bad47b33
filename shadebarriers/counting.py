"""Counting: for how many tables a property holds."""

from shadebarriers.demands import demands_of, least_answers, unmet
from shadebarriers.marks import all_marks
from shadebarriers.properties import check_property


def count_within(table, word):
    """The number of tables with all marks of this one, and its rescan or none, for which a property holds."""
    check_property(word)
    marks, rescans = table
    return _answers(unmet(demands_of(word, rescans), marks), len(all_marks()) - len(marks))


def count_least(word, rescans):
    """The number of tables, all rescanning or none, for which a property holds, but not without one of the marks."""
    check_property(word)
    return len(least_answers(demands_of(word, rescans)))


def _answers(demands, many):
    """The number of sets of marks that meet all demands, out of so many marks, those of the demands among them."""
    if not demands:
        return 1 << many
    if not all(demands):
        return 0
    mark = _most_demanded(demands)
    harder = [tuple([other for other in demand if other != mark]) for demand in demands]
    return _answers(unmet(demands, [mark]), many - 1) + _answers(harder, many - 1)


def _most_demanded(demands):
    many = {}
    for demand in demands:
        for mark in demand:
            many[mark] = many.get(mark, 0) + 1
    return max(many, key=lambda one: many[one])
