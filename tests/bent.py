"""Texts that are bent somewhere, and which row of a text is the first that can't stand there, for tests.

The rows are judged anew by patterns, one function for each kind of text: whether any text begins with these rows.
"""

import itertools
import re

from tests.thrown import picks

ENTRY = r"(?:-|0|[1-9][0-9]{0,8})"
NUMBER = r"(?:0|[1-9][0-9]{0,8})"
COLOUR = r"(?:black|grey|white)"
STATE = r"(?:scanned|unscanned)"
SLOT = r"(?:black|grey|none|white)"
MARKS = [
    rf"load {STATE} {COLOUR}", rf"new {STATE}",
    rf"store {STATE} (?:black|white) {SLOT} {SLOT} holder",
    rf"store {STATE} {COLOUR} white {SLOT} old", rf"store {STATE} {COLOUR} {SLOT} white new",
]
STEPS = [
    rf"(?:new|scan|visit) {NUMBER}", rf"drop {NUMBER} {NUMBER}", rf"load {NUMBER} {NUMBER} {NUMBER}",
    rf"store {NUMBER} {NUMBER} {NUMBER} (?:-|{NUMBER})",
]


def is_one_of(row, patterns):
    return any(re.fullmatch(pattern, row) for pattern in patterns)


def can_begin_table(rows):
    marks = [row.split(" ") for row in rows[1:]]
    return (
        rows[0] in ("rescan yes", "rescan no")
        and all(is_one_of(row, MARKS) for row in rows[1:])
        and all(one < other for one, other in itertools.pairwise(marks))
    )


def can_begin_heap(rows):
    if not re.fullmatch("width [1-4]", rows[0]):
        return False
    width = int(rows[0][-1])
    kinds = "".join(row[:1] for row in rows[1:])
    if not re.fullmatch("o{0,12}t{0,4}", kinds):
        return False
    objects = rows[1:1 + kinds.count("o")]
    threads = rows[1 + kinds.count("o"):]
    if not all(re.fullmatch("object" + f" {ENTRY}" * width, row) for row in objects):
        return False
    named = [int(entry) for row in objects for entry in row.split(" ")[1:] if entry != "-"]
    if any(number > 11 for number in named):
        return False
    if threads and any(number >= len(objects) for number in named):
        return False
    for row in threads:
        if not re.fullmatch(r"thread(?: (?:0|[1-9][0-9]{0,8}))*", row):
            return False
        own = [int(entry) for entry in row.split(" ")[1:]]
        if own != sorted(set(own)) or any(number >= len(objects) for number in own):
            return False
    return True


def can_begin_steps(rows):
    return rows == [""] or all(is_one_of(row, STEPS) for row in rows)


def is_whole_heap(rows):
    return rows[-1].startswith("thread")


def wrong_row(kind, text):
    """The row that BadText must have for a text of this kind, or None if the text is one."""
    can_begin = {"table": can_begin_table, "heap": can_begin_heap, "steps": can_begin_steps}[kind]
    rows = text.split("\n")
    for index in range(len(rows)):
        if not can_begin(rows[:index + 1]):
            return index
    return len(rows) if kind == "heap" and not is_whole_heap(rows) else None


PIECES = [
    "", " ", "  ", "-", "0", "00", "01", "+1", "-1", "1 ", " 1", "11", "12", "13", "1234567890", "999999999", "\t", "/",
    "None", "True", "1.0", "1_0", "0x1", "object", "thread", "width", "rescan", "yes", "new", "white", "scanned", "x",
]
WHOLE_ROWS = [
    "", " ", "object", "object -", "object 0", "object - -", "object 11", "object 12", "object 12 0", "thread",
    "thread 0", "thread 0 1", "thread 1 0", "thread 0 0", "thread -", "thread ", " thread", "Thread", "width 1", "width 5",
    "rescan yes", "rescan no", "rescan", "new scanned", "new unscanned", "store unscanned white white white old",
    "visit 0", "visit", "visit -", "visit 00", "visit +1", "visit 1234567890", "visit 123456789", "store 0 0 0 -",
    "store 0 0 - 0", "load 0 0 -", "scan 0 0", "collect",
]


def bent(text, seed):
    """Texts that come from this one by a change at a drawn place."""
    source = picks(seed)
    rows = text.split("\n")
    at = next(source) % len(rows)
    other = next(source) % len(rows)
    words = rows[at].split(" ")
    word = next(source) % len(words)
    piece = PIECES[next(source) % len(PIECES)]
    place = next(source) % (len(text) + 1)
    swapped = list(rows)
    swapped[at], swapped[other] = rows[other], rows[at]
    changes = [
        rows[:at] + rows[at + 1:], rows[:at] + [rows[at]] + rows[at:], swapped, rows[:at], rows[at:],
        rows[:at] + [""] + rows[at:], rows + [""], [""] + rows, rows + [rows[other]],
        rows[:at] + [rows[at] + " "] + rows[at + 1:], rows[:at] + [" " + rows[at]] + rows[at + 1:],
        rows[:at] + [rows[at].replace(" ", "  ", 1)] + rows[at + 1:],
        rows[:at] + [" ".join(words[:word] + [piece] + words[word + 1:])] + rows[at + 1:],
        rows[:at] + [" ".join(words[:word] + [piece] + words[word:])] + rows[at + 1:],
        rows[:at] + [" ".join(words[:word] + words[word + 1:])] + rows[at + 1:],
        rows[:at] + [WHOLE_ROWS[next(source) % len(WHOLE_ROWS)]] + rows[at:],
        rows[:at] + [WHOLE_ROWS[next(source) % len(WHOLE_ROWS)]] + rows[at + 1:],
        rows[:at] + [rows[at].upper()] + rows[at + 1:], rows * 2,
    ]
    return ["\n".join(change) for change in changes] + [text[:place], text[place:], text[:place] + piece + text[place:]]
