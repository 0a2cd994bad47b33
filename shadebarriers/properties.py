"""Properties: what the states of a run have, or do not have."""

from shadebarriers.errors import BadProperty
from shadebarriers.runs import states_of
from shadebarriers.states import contents, covered, is_ended, lost, white_among

PROPERTIES = ("clean", "covered", "direct", "safe", "strong", "weak")


def has(table, state, word):
    """Whether a state has a property; raises BadProperty for any value but the six words."""
    check_property(word)
    if word == "safe":
        return not is_ended(table, state) or not lost(state)
    if word == "strong":
        return not _white_below_black(state)
    if word == "weak":
        return _are_all_in(_white_below_black(state), covered(state))
    if word == "clean":
        return not _white_held(state)
    if word == "direct":
        return _are_all_in(_white_held(state), contents(state, "grey"))
    return _are_all_in(_white_held(state), covered(state))


def first_break(table, run, word):
    """The index of the first state of a run that does not have a property, or None; raises BadProperty."""
    check_property(word)
    for index, state in enumerate(states_of(table, run)):
        if not has(table, state, word):
            return index
    return None


def check_property(word):
    """Raises BadProperty for any value but the six words."""
    if word not in PROPERTIES:
        raise BadProperty(word)


def _white_below_black(state):
    return white_among(state, contents(state, "black"))


def _white_held(state):
    _, _, _, held, scanned = state
    numbers = [number for own, is_scanned in zip(held, scanned) if is_scanned for number in own]
    return white_among(state, numbers)


def _are_all_in(numbers, others):
    return all([number in others for number in numbers])
