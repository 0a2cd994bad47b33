"""Heaps, runs and tables that look thrown together, always the same ones for the same numbers."""

from shadebarriers.judging import holds
from shadebarriers.marks import all_marks
from shadebarriers.states import start
from shadebarriers.steps import after, possible


def picks(seed):
    """Numbers that look thrown together, always the same ones for a seed."""
    number = seed
    while True:
        number = (number * 1103515245 + 12345) & (2**31 - 1)
        yield number >> 8


def thrown_heap(seed, width, objects, threads):
    """A heap that looks thrown together, always the same one for these numbers."""
    source = picks(seed)
    entries = [None, *range(objects)]
    slots = tuple(tuple(entries[next(source) % len(entries)] for _ in range(width)) for _ in range(objects))
    held = tuple(
        tuple(number for number in range(objects) if next(source) % 3 == 0) for _ in range(threads)
    )
    return (width, slots, held)


def thrown_run(table, heap, seed, most=200):
    """A run that looks thrown together, with at most so many steps; threads are visited late."""
    source = picks(seed)
    state = start(heap)
    steps = []
    while len(steps) < most:
        choice = [step for step in possible(table, state) if step[0] != "visit" or next(source) % 16 == 0]
        choice = choice or list(possible(table, state))
        if not choice:
            break
        kinds = sorted({step[0] for step in choice})
        kind = kinds[next(source) % len(kinds)]
        choice = [step for step in choice if step[0] == kind]
        steps.append(choice[next(source) % len(choice)])
        state = after(table, state, steps[-1])
    return (heap, tuple(steps))


def thrown_table(seed, share=None):
    """A table that looks thrown together; about share of 16 marks are in it, or as many as the seed says."""
    source = picks(seed * 7 + 3)
    share = next(source) % 17 if share is None else share
    marks = tuple(mark for mark in all_marks() if next(source) % 16 < share)
    return (marks, next(source) % 2 == 1)


def near_tables(word, seed):
    """Tables for which a property just about holds or does not: a least one, and it without or with some marks."""
    source = picks(seed * 11 + 5)
    many = sorted(all_marks(), key=lambda mark: next(source))
    rescans = next(source) % 2 == 1
    kept = set(many)
    # One mark after the other goes, in an order of its own, as long as the property holds without it.
    for mark in many:
        if holds((tuple(sorted(kept - {mark})), rescans), word):
            kept.remove(mark)
    found = [kept, kept | set(many[:20]), kept | set(many[:60]), set(many) - {sorted(kept)[next(source) % len(kept)]}]
    found += [set(table) - {mark} for table in found[:2] for mark in sorted(kept)[:2]]
    found.append(kept - set(many[:70]))
    return [(tuple(sorted(marks)), rescans) for marks in found]
