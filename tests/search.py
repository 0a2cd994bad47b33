"""A search over runs on small heaps, step by step as the package makes them, for tests."""

from shadebarriers.properties import PROPERTIES, has
from shadebarriers.states import start
from shadebarriers.steps import after, possible

THREAD_WORDS = ("drop", "load", "new", "store")


def least_breaks(table, heaps, most, objects):
    """For each property that runs on these heaps break, the least number of thread steps, up to this many.

    The runs make no more than so many objects, those of the heap included.
    """
    found = {}
    seen = set()
    level = [start(heap) for heap in heaps]
    for many in range(most + 1):
        later = []
        while level:
            state = level.pop()
            if state in seen:
                continue
            seen.add(state)
            for word in PROPERTIES:
                if word not in found and not has(table, state, word):
                    found[word] = many
            for step in possible(table, state):
                if step[0] not in THREAD_WORDS:
                    level.append(after(table, state, step))
                elif many < most and (step[0] != "new" or len(state[1]) < objects):
                    later.append(after(table, state, step))
        level = later
    return found
