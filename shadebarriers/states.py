"""States: a heap with the colours of its objects, and which threads the collector has visited."""

from shadebarriers.heaps import is_heap, reachable
from shadebarriers.marks import COLOURS


def start(heap):
    """The state of a heap in which all objects are white and no thread is scanned."""
    width, slots, held = heap
    return (width, slots, ("white",) * len(slots), held, (False,) * len(held))


def is_state(value):
    """Whether any value is a state: a tuple (width, slots, colours, held, scanned)."""
    if not isinstance(value, tuple) or len(value) != 5:
        return False
    width, slots, colours, held, scanned = value
    if not is_heap((width, slots, held)):
        return False
    return _are_colours(colours, len(slots)) and _are_booleans(scanned, len(held))


def is_ended(table, state):
    """Whether a state is ended: nothing is grey, all threads are scanned, and none needs to be visited again."""
    _, rescans = table
    _, _, colours, held, scanned = state
    if "grey" in colours or not all(scanned):
        return False
    return not rescans or all([not white_among(state, thread) for thread in held])


def lost(state):
    """The ascending tuple of the objects that are reachable and white."""
    width, slots, _, held, _ = state
    return tuple(white_among(state, reachable((width, slots, held))))


def covered(state):
    """The ascending tuple of the white objects in a slot of a grey object or of a covered object."""
    _, slots, _, _, _ = state
    waiting = white_among(state, contents(state, "grey"))
    found = set()
    while waiting:
        number = waiting.pop()
        if number not in found:
            found.add(number)
            waiting.extend(white_among(state, slots[number]))
    return tuple(sorted(found))


def white_among(state, entries):
    """The list of those entries, objects or None, that are white objects."""
    _, _, colours, _, _ = state
    return [entry for entry in entries if entry is not None and colours[entry] == "white"]


def contents(state, colour):
    """The list of what the slots of all objects of a colour have, None included."""
    _, slots, colours, _, _ = state
    return [entry for row, own in zip(slots, colours) if own == colour for entry in row]


def _are_colours(value, objects):
    if not isinstance(value, tuple) or len(value) != objects:
        return False
    return all([colour in COLOURS for colour in value])


def _are_booleans(value, threads):
    if not isinstance(value, tuple) or len(value) != threads:
        return False
    return all([isinstance(scanned, bool) for scanned in value])
