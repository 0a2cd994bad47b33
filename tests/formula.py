"""Which properties hold, as one formula each, and for how many tables: for tests to compare judgements with.

The formulas were found by hand, from what keeps up a property by each step.
"""

import itertools

STATES = ("scanned", "unscanned")
WORDS = ("black", "grey", "none", "white")
OLDS = ("black", "grey", "none")
MAKING = ("new", "scanned")
LOADS = {colour: ("load", "scanned", colour) for colour in ("black", "grey", "white")}


def pairs(state, olds):
    """For each colour of what is stored over, the two marks one of which shades at a white store into black."""
    return [[("store", state, "black", old, "white", who) for who in ("holder", "new")] for old in olds]


def cuts(colour):
    """All marks that shade what is taken out of the slot of an object of this colour."""
    return [[("store", state, colour, "white", new, "old")] for state in STATES for new in WORDS]


# For each name groups of marks: it is true of a table that has one mark of each group at least.
FACTS = {
    "making": [[MAKING]],
    "black load": [[LOADS["black"]]], "grey load": [[LOADS["grey"]]], "white load": [[LOADS["white"]]],
    "late": pairs("unscanned", OLDS), "seen": pairs("scanned", OLDS), "swap": pairs("unscanned", ["white"]),
    "grey cuts": cuts("grey"), "white cuts": cuts("white"),
}


def follows(true, word, rescans):
    """Whether a property holds, if these facts are true of a table."""
    making, black, grey, white, late, seen, swap, grey_cuts, white_cuts = [name in true for name in FACTS]
    kept = grey_cuts and (white or white_cuts)
    weak = late and (seen or (making and (grey or (kept and swap))))
    slots = late and (grey or seen or swap)
    covered = making and (grey or kept) and (black or slots)
    if word == "clean":
        return making and grey and (black or late)
    if word == "strong":
        return late and (seen or (making and grey))
    if word == "weak":
        return weak
    if word == "covered":
        return covered
    if word == "direct":
        return making and (grey or (white and grey_cuts)) and (black or slots)
    # What a scanned thread loads from a black object is covered, as the weak property says.
    return weak if rescans else weak and making and (grey or kept)


def holds_by_formula(table, word):
    marks = set(table[0])
    true = [name for name, groups in FACTS.items() if all(marks & set(group) for group in groups)]
    return follows(true, word, table[1])


def ways(name):
    """How many sets of a fact's marks make it true, and how many do not."""
    groups = FACTS[name]
    good = 1
    for group in groups:
        good *= 2 ** len(group) - 1
    return good, 2 ** sum(len(group) for group in groups) - good


def count_by_formula(word, rescans):
    """The number of tables for which a property holds."""
    free = 120 - sum(len(group) for groups in FACTS.values() for group in groups)
    total = 0
    for choice in itertools.product((True, False), repeat=len(FACTS)):
        true = [name for name, is_true in zip(FACTS, choice) if is_true]
        if follows(true, word, rescans):
            product = 2 ** free
            for name, is_true in zip(FACTS, choice):
                product *= ways(name)[0 if is_true else 1]
            total += product
    return total
