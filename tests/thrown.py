"""Heaps and runs that look thrown together, always the same ones for the same numbers."""

from shadebarriers.states import start
from shadebarriers.steps import after, possible


def picks(seed):
    """Numbers that look thrown together, always the same ones for a seed."""
    number = seed
    while True:
        number = (number * 1103515245 + 12345) & (2**31 - 1)
        yield number >> 8


def thrown_heap(seed, width, objects, threads):
    """A heap that looks thrown together, always the same one for these numbers."""
    source = picks(seed)
    entries = [None, *range(objects)]
    slots = tuple(tuple(entries[next(source) % len(entries)] for _ in range(width)) for _ in range(objects))
    held = tuple(
        tuple(number for number in range(objects) if next(source) % 3 == 0) for _ in range(threads)
    )
    return (width, slots, held)


def thrown_run(table, heap, seed, most=200):
    """A run that looks thrown together, with at most so many steps; threads are visited late."""
    source = picks(seed)
    state = start(heap)
    steps = []
    while len(steps) < most:
        choice = [step for step in possible(table, state) if step[0] != "visit" or next(source) % 16 == 0]
        choice = choice or list(possible(table, state))
        if not choice:
            break
        kinds = sorted({step[0] for step in choice})
        kind = kinds[next(source) % len(kinds)]
        choice = [step for step in choice if step[0] == kind]
        steps.append(choice[next(source) % len(choice)])
        state = after(table, state, steps[-1])
    return (heap, tuple(steps))
