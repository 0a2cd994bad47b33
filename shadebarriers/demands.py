"""Demands: tuples of marks, of each of which a table must have one at least, so that a property holds."""

from shadebarriers.stories import stories


def demands_of(word, rescans):
    """The list of what a property demands of tables that rescan, or of those that do not."""
    return [lacks for lacks, _, _ in stories(word, rescans)]


def unmet(demands, marks):
    """The list of those demands none of whose marks is among some marks."""
    own = set(marks)
    return [demand for demand in demands if not any([mark in own for mark in demand])]


def least_answers(demands):
    """The list of all lists of marks that meet all demands, and would not without any one of their marks."""
    return _answers_beyond(demands, [], [])


def _answers_beyond(left, taken, barred):
    """The least answers with all marks taken and none barred.

    left is the demands that the marks taken do not meet; taken is pairs of a mark and what it alone meets.
    """
    if not left:
        return [[mark for mark, _ in taken]]
    found = []
    passed = list(barred)
    # Each answer has a first mark of this demand; the marks ahead of it are barred from it.
    for mark in _narrowest(left, barred):
        narrowed = [(other, unmet(alone, [mark])) for other, alone in taken]
        if all([alone for _, alone in narrowed]):
            met = [demand for demand in left if mark in demand]
            found.extend(_answers_beyond(unmet(left, [mark]), [*narrowed, (mark, met)], list(passed)))
        passed.append(mark)
    return found


def _narrowest(demands, barred):
    """The marks, without those barred, of the demand that has the fewest such."""
    choices = [[mark for mark in demand if mark not in barred] for demand in demands]
    return min(choices, key=len)
