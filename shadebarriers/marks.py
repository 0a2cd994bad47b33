"""Marks and tables: which objects an operation shades."""

from shadebarriers.errors import BadWord
from shadebarriers.kinds import is_ascending

COLOURS = ("black", "grey", "white")
THREAD_STATES = ("scanned", "unscanned")
SLOT_WORDS = ("black", "grey", "none", "white")
WHO_WORDS = ("holder", "new", "old")
KNOWN_WORDS = ("value", "holder", "old", "both", "load")
RESCANNING_WORDS = ("value", "holder")


def is_mark(value):
    """Whether any value is one of the 120 marks."""
    if not isinstance(value, tuple) or len(value) < 2 or value[1] not in THREAD_STATES:
        return False
    if value[0] == "load":
        return len(value) == 3 and value[2] in COLOURS
    if value[0] == "new":
        return len(value) == 2
    return value[0] == "store" and len(value) == 6 and _can_shade(value)


def is_table(value):
    """Whether any value is a table: a tuple (marks, rescans)."""
    if not isinstance(value, tuple) or len(value) != 2:
        return False
    marks, rescans = value
    return isinstance(rescans, bool) and isinstance(marks, tuple) and _are_sorted_marks(marks)


def all_marks():
    """The ascending tuple of all marks."""
    loads = [("load", state, colour) for state in THREAD_STATES for colour in COLOURS]
    news = [("new", state) for state in THREAD_STATES]
    return tuple(sorted([*loads, *news, *_store_marks()]))


def joined(*tables):
    """The table with the marks of all tables, which rescans if one of them does."""
    marks = sorted({mark for own, _ in tables for mark in own})
    return (tuple(marks), any([rescans for _, rescans in tables]))


def is_within(table, other):
    """Whether the other table has all marks of this one, and rescans if this one does."""
    marks, rescans = table
    wider = set(other[0])
    return all([mark in wider for mark in marks]) and (other[1] or not rescans)


def shaded(table, state, holder, old, new):
    """The ascending tuple of the words of the objects that a table shades at such a store."""
    return tuple([who for who in WHO_WORDS if ("store", state, holder, old, new, who) in table[0]])


def known_table(word):
    """The known table of one of the five words; raises BadWord for any other value."""
    if word not in KNOWN_WORDS:
        raise BadWord(word)
    marks = tuple([mark for mark in all_marks() if _is_known(word, mark)])
    return (marks, word in RESCANNING_WORDS)


def _can_shade(store):
    holder, old, new, who = store[2:]
    if holder not in COLOURS or old not in SLOT_WORDS or new not in SLOT_WORDS:
        return False
    if who == "holder":
        return holder != "grey"
    return (who == "old" and old == "white") or (who == "new" and new == "white")


def _are_sorted_marks(marks):
    # Only marks are sure to be comparable, so the order is asked for last.
    return all([is_mark(mark) for mark in marks]) and is_ascending(marks)


def _store_marks():
    stores = [
        ("store", state, holder, old, new, who)
        for state in THREAD_STATES
        for holder in COLOURS
        for old in SLOT_WORDS
        for new in SLOT_WORDS
        for who in WHO_WORDS
    ]
    return [mark for mark in stores if is_mark(mark)]


def _is_known(word, mark):
    if mark[0] == "new":
        return True
    if mark[0] == "load":
        return word == "load"
    state, holder, _, new, who = mark[1:]
    if word == "value":
        return who == "new"
    if word == "holder":
        return who == "holder" and holder == "black" and new == "white"
    if word == "old":
        return who == "old"
    by_unscanned = who == "new" and state == "unscanned"
    return by_unscanned or (word == "both" and who == "old")
