"""Judging: which properties hold for a table on all heaps, and short runs that break the others."""

from shadebarriers.collector import steps_to_end
from shadebarriers.demands import demands_of, unmet
from shadebarriers.properties import PROPERTIES, check_property, first_break
from shadebarriers.runs import is_run, states_of
from shadebarriers.stories import OPENING, stories


def holds(table, word):
    """Whether no run of a table breaks a property; raises BadProperty."""
    check_property(word)
    marks, rescans = table
    return not unmet(demands_of(word, rescans), marks)


def fewest_steps(table, word):
    """The least number of thread steps with which a run breaks a property, None if it holds; raises BadProperty."""
    check_property(word)
    story = _shortest_story(table, word)
    if story is None:
        return None
    _, _, steps = story
    return len(steps)


def breaking_run(table, word):
    """A run with the fewest thread steps that breaks a property, None if it holds; raises BadProperty."""
    check_property(word)
    story = _shortest_story(table, word)
    if story is None:
        return None
    _, heap, steps = story
    run = (heap, OPENING + steps)
    # Only at its end it shows whether a run has lost an object.
    return _completed(table, run) if word == "safe" else run


def properties_of(table):
    """The ascending tuple of the properties that hold for a table."""
    return tuple([word for word in PROPERTIES if holds(table, word)])


def shows_break(table, word, value):
    """Whether any value is a run with at most 200 steps that breaks a property; raises BadProperty."""
    check_property(word)
    return is_run(table, value) and first_break(table, value, word) is not None


def _shortest_story(table, word):
    marks, rescans = table
    left = [story for story in stories(word, rescans) if unmet([story[0]], marks)]
    return min(left, key=lambda one: len(one[2]), default=None)


def _completed(table, run):
    heap, steps = run
    return (heap, steps + steps_to_end(table, states_of(table, run)[-1]))
