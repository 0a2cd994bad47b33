"""Heaps: objects with slots, and the threads that hold objects."""

from shadebarriers.kinds import is_ascending, is_number

MOST_OBJECTS = 12
MOST_SLOTS = 4
MOST_THREADS = 4


def is_heap(value):
    """Whether any value is a heap: a tuple (width, slots, held)."""
    if not isinstance(value, tuple) or len(value) != 3:
        return False
    width, slots, held = value
    return _is_width(width) and _are_slots(slots, width) and _are_held(held, len(slots))


def reachable(heap):
    """The ascending tuple of the objects that a thread holds or that are in a slot of a reachable one."""
    _, slots, held = heap
    waiting = [number for thread in held for number in thread]
    found = set()
    while waiting:
        number = waiting.pop()
        if number not in found:
            found.add(number)
            waiting.extend([entry for entry in slots[number] if entry is not None])
    return tuple(sorted(found))


def _is_width(value):
    return is_number(value) and 1 <= value <= MOST_SLOTS


def _are_slots(value, width):
    if not isinstance(value, tuple) or len(value) > MOST_OBJECTS:
        return False
    return all([_is_row(row, width, len(value)) for row in value])


def _is_row(value, width, objects):
    if not isinstance(value, tuple) or len(value) != width:
        return False
    return all([entry is None or _is_object(entry, objects) for entry in value])


def _are_held(value, objects):
    if not isinstance(value, tuple) or not 1 <= len(value) <= MOST_THREADS:
        return False
    return all([_is_thread(thread, objects) for thread in value])


def _is_thread(value, objects):
    if not isinstance(value, tuple):
        return False
    return all([_is_object(number, objects) for number in value]) and is_ascending(value)


def _is_object(value, objects):
    return is_number(value) and 0 <= value < objects
