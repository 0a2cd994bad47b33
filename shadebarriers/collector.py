"""What the collector does, left to itself."""

from shadebarriers.states import is_ended, white_among
from shadebarriers.steps import after


def steps_to_end(table, state):
    """The tuple of the steps that the collector makes, left to itself, until the state is ended."""
    made = []
    while not is_ended(table, state):
        step = _next_step(table, state)
        made.append(step)
        state = after(table, state, step)
    return tuple(made)


def _next_step(table, state):
    _, _, colours, _, _ = state
    if "grey" in colours:
        return ("scan", colours.index("grey"))
    return ("visit", _threads_to_visit(table, state)[0])


def _threads_to_visit(table, state):
    _, rescans = table
    _, _, _, held, scanned = state
    return [
        thread
        for thread, own in enumerate(held)
        if not scanned[thread] or (rescans and white_among(state, own))
    ]
