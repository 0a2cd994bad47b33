"""Steps of the threads and of the collector: which are possible, and what they do."""

from shadebarriers.errors import BadStep, EmptySlot, Ended, Full, NoObject, NoSlot, NoThread, NotGrey, NotHeld, Visited
from shadebarriers.heaps import MOST_OBJECTS
from shadebarriers.kinds import is_number
from shadebarriers.marks import shaded
from shadebarriers.states import is_ended, white_among

FORMS = (("drop", 2), ("load", 3), ("new", 1), ("scan", 1), ("store", 4), ("visit", 1))
THREAD_WORDS = ("drop", "load", "new", "store")


def is_step(value):
    """Whether any value is a step: a tuple of a word and its numbers."""
    if not isinstance(value, tuple) or not value:
        return False
    word, *numbers = value
    if (word, len(numbers)) not in FORMS:
        return False
    if word == "store" and numbers[3] is None:
        numbers = numbers[:3]
    return all([is_number(number) and number >= 0 for number in numbers])


def possible(table, state):
    """The tuple of all possible steps, sorted by their words, then by their numbers, None ahead of all numbers."""
    if is_ended(table, state):
        return ()
    # The words in their order; each list is sorted already, since the objects that a thread holds are.
    first = _drops(state) + _loads(state) + _news(state)
    return tuple(first + _scans(state) + _stores(state) + _visits(table, state))


def _drops(state):
    _, _, _, held, _ = state
    return [("drop", thread, number) for thread, own in enumerate(held) for number in own]


def _loads(state):
    _, slots, _, held, _ = state
    return [
        ("load", thread, holder, slot)
        for thread, own in enumerate(held)
        for holder in own
        for slot, entry in enumerate(slots[holder])
        if entry is not None
    ]


def _news(state):
    _, slots, _, held, _ = state
    if len(slots) >= MOST_OBJECTS:
        return []
    return [("new", thread) for thread in range(len(held))]


def _scans(state):
    _, _, colours, _, _ = state
    return [("scan", number) for number, colour in enumerate(colours) if colour == "grey"]


def _stores(state):
    width, _, _, held, _ = state
    return [
        ("store", thread, holder, slot, value)
        for thread, own in enumerate(held)
        for holder in own
        for slot in range(width)
        for value in (None, *own)
    ]


def _visits(table, state):
    _, rescans = table
    _, _, _, _, scanned = state
    return [("visit", thread) for thread, is_scanned in enumerate(scanned) if rescans or not is_scanned]


def _after_drop(table, state, thread, number):
    _check_thread(state, thread)
    _check_held(state, thread, number)
    width, slots, colours, held, scanned = state
    left = tuple([other for other in held[thread] if other != number])
    return (width, slots, colours, _replaced(held, thread, left), scanned)


def _after_load(table, state, thread, holder, slot):
    _check_place(state, thread, holder, slot)
    width, slots, colours, held, scanned = state
    loaded = slots[holder][slot]
    if loaded is None:
        raise EmptySlot(slot)
    marks, _ = table
    is_marked = ("load", _thread_state(state, thread), colours[holder]) in marks
    shades = white_among(state, [loaded]) if is_marked else []
    more = tuple(sorted(set(held[thread] + (loaded,))))
    return (width, slots, _greyed(colours, shades), _replaced(held, thread, more), scanned)


def _after_new(table, state, thread):
    _check_thread(state, thread)
    width, slots, colours, held, scanned = state
    number = len(slots)
    if number >= MOST_OBJECTS:
        raise Full()
    marks, _ = table
    colour = "black" if ("new", _thread_state(state, thread)) in marks else "white"
    more = held[thread] + (number,)
    return (width, slots + ((None,) * width,), colours + (colour,), _replaced(held, thread, more), scanned)


def _after_scan(table, state, number):
    _check_object(state, number)
    width, slots, colours, held, scanned = state
    if colours[number] != "grey":
        raise NotGrey(number)
    greyed = _greyed(colours, white_among(state, slots[number]))
    return (width, slots, _replaced(greyed, number, "black"), held, scanned)


def _after_store(table, state, thread, holder, slot, value):
    _check_place(state, thread, holder, slot)
    if value is not None:
        _check_held(state, thread, value)
    width, slots, colours, held, scanned = state
    old = slots[holder][slot]
    words = shaded(
        table, _thread_state(state, thread), colours[holder], _slot_word(colours, old), _slot_word(colours, value)
    )
    objects = {"holder": holder, "old": old, "new": value}
    greyed = _greyed(colours, [objects[who] for who in words])
    row = _replaced(slots[holder], slot, value)
    return (width, _replaced(slots, holder, row), greyed, held, scanned)


def _after_visit(table, state, thread):
    _check_thread(state, thread)
    _, rescans = table
    width, slots, colours, held, scanned = state
    if scanned[thread] and not rescans:
        raise Visited(thread)
    greyed = _greyed(colours, white_among(state, held[thread]))
    return (width, slots, greyed, held, _replaced(scanned, thread, True))


EFFECTS = {
    "drop": _after_drop,
    "load": _after_load,
    "new": _after_new,
    "scan": _after_scan,
    "store": _after_store,
    "visit": _after_visit,
}


def after(table, state, step):
    """The state after a step; raises BadStep, Ended, or the first error from the left of the step."""
    if not is_step(step):
        raise BadStep(step)
    if is_ended(table, state):
        raise Ended()
    word, *numbers = step
    effect = EFFECTS[word]
    return effect(table, state, *numbers)


def _check_thread(state, thread):
    _, _, _, held, _ = state
    if thread >= len(held):
        raise NoThread(thread)


def _check_object(state, number):
    _, slots, _, _, _ = state
    if number >= len(slots):
        raise NoObject(number)


def _check_held(state, thread, number):
    _check_object(state, number)
    _, _, _, held, _ = state
    if number not in held[thread]:
        raise NotHeld(number)


def _check_place(state, thread, holder, slot):
    _check_thread(state, thread)
    _check_held(state, thread, holder)
    width, _, _, _, _ = state
    if slot >= width:
        raise NoSlot(slot)


def _thread_state(state, thread):
    _, _, _, _, scanned = state
    return "scanned" if scanned[thread] else "unscanned"


def _slot_word(colours, entry):
    return "none" if entry is None else colours[entry]


def _greyed(colours, numbers):
    return tuple(["grey" if number in numbers else colour for number, colour in enumerate(colours)])


def _replaced(items, at, item):
    return items[:at] + (item,) + items[at + 1:]
