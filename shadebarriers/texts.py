"""Texts of tables, heaps and steps: rows of words."""

from shadebarriers.errors import BadText
from shadebarriers.heaps import MOST_OBJECTS, is_heap
from shadebarriers.marks import is_mark
from shadebarriers.steps import is_step

RESCAN_ROWS = {"rescan yes": True, "rescan no": False}
WIDTH_ROWS = {"width 1": 1, "width 2": 2, "width 3": 3, "width 4": 4}
MOST_DIGITS = 9


def format_table(table):
    """The text of a table."""
    marks, rescans = table
    first = "rescan yes" if rescans else "rescan no"
    return "\n".join([first, *[" ".join(mark) for mark in marks]])


def format_heap(heap):
    """The text of a heap."""
    width, slots, held = heap
    objects = [_row("object", entries) for entries in slots]
    threads = [_row("thread", own) for own in held]
    return "\n".join([f"width {width}", *objects, *threads])


def format_steps(steps):
    """The text of a tuple of steps."""
    return "\n".join([format_step(step) for step in steps])


def format_step(step):
    """The row of a step."""
    word, *numbers = step
    return _row(word, numbers)


def parse_table(text):
    """The table that is written so; raises BadText for any value that is not the text of a table."""
    first, *rest = _rows(text)
    if first not in RESCAN_ROWS:
        raise BadText(0)
    marks = []
    for index, row in enumerate(rest, start=1):
        mark = read_mark(row)
        if mark is None or (marks and mark <= marks[-1]):
            raise BadText(index)
        marks.append(mark)
    return (tuple(marks), RESCAN_ROWS[first])


def parse_heap(text):
    """The heap that is written so; raises BadText for any value that is not the text of a heap."""
    rows = _rows(text)
    if rows[0] not in WIDTH_ROWS:
        raise BadText(0)
    heap = (WIDTH_ROWS[rows[0]], (), ())
    for index, row in enumerate(rows[1:], start=1):
        heap = _with_row(heap, row)
        if heap is None:
            raise BadText(index)
    if not is_heap(heap):
        raise BadText(len(rows))
    return heap


def parse_steps(text):
    """The tuple of steps that is written so; raises BadText for any value that is not the text of steps."""
    rows = _rows(text)
    if rows[0] == "":
        # An empty row is the text of no steps, so only what stands behind it can be wrong.
        if len(rows) > 1:
            raise BadText(1)
        return ()
    steps = []
    for index, row in enumerate(rows):
        step = read_step(row)
        if step is None:
            raise BadText(index)
        steps.append(step)
    return tuple(steps)


def read_mark(row):
    """The mark whose row this is, or None."""
    mark = tuple(row.split(" "))
    return mark if is_mark(mark) else None


def read_step(row):
    """The step whose row this is, or None."""
    word, *entries = row.split(" ")
    if not _are_entries(entries):
        return None
    step = (word, *_numbers(entries))
    return step if is_step(step) else None


def _row(word, entries):
    return " ".join([word, *["-" if entry is None else str(entry) for entry in entries]])


def _rows(text):
    if not isinstance(text, str):
        raise BadText(0)
    return text.split("\n")


def _with_row(heap, row):
    """The part of a heap with one more row of its text, None if the row can't stand there."""
    width, slots, held = heap
    word, *entries = row.split(" ")
    if not _are_entries(entries):
        return None
    numbers = _numbers(entries)
    if word == "object" and not held and len(slots) < MOST_OBJECTS:
        return (width, slots + (numbers,), ()) if _can_be_slots(numbers, width) else None
    larger = (width, slots, held + (numbers,))
    # From the first thread on the rows ahead are a heap, whose slots have no objects without rows.
    return larger if word == "thread" and is_heap(larger) else None


def _can_be_slots(numbers, width):
    return len(numbers) == width and all([number is None or number < MOST_OBJECTS for number in numbers])


def _are_entries(words):
    return all([word == "-" or _is_number(word) for word in words])


def _is_number(word):
    if not word.isascii() or not word.isdigit() or len(word) > MOST_DIGITS:
        return False
    return word == "0" or not word.startswith("0")


def _numbers(entries):
    return tuple([None if entry == "-" else int(entry) for entry in entries])
