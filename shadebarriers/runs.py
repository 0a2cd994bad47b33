"""Runs: a heap, and steps each of which is possible behind the ones ahead of it."""

from shadebarriers.errors import ShadeError
from shadebarriers.heaps import is_heap
from shadebarriers.states import start
from shadebarriers.steps import THREAD_WORDS, after

MOST_STEPS = 200


def is_run(table, value):
    """Whether any value is a run of the table with at most 200 steps."""
    if not isinstance(value, tuple) or len(value) != 2:
        return False
    heap, steps = value
    if not is_heap(heap) or not isinstance(steps, tuple) or len(steps) > MOST_STEPS:
        return False
    try:
        states_of(table, value)
    except ShadeError:
        return False
    return True


def states_of(table, run):
    """The tuple of the states of a run from the start on, one more than steps."""
    heap, _ = run
    behind = [state for _, state in walk(table, run)]
    return (start(heap), *behind)


def walk(table, run):
    """A generator of the pairs (step, state) along a run: each step and the state behind it."""
    heap, steps = run
    state = start(heap)
    for step in steps:
        state = after(table, state, step)
        yield (step, state)


def thread_steps(run):
    """The number of the steps of a run that threads make."""
    _, steps = run
    return len([step for step in steps if step[0] in THREAD_WORDS])
