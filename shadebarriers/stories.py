"""Stories: the ways in which threads break a property, each with as few thread steps as possible.

A story is a tuple (lacks, heap, steps). Behind the collector's steps OPENING on the heap, these thread steps
break the property for each table that has none of the marks in lacks, whatever other marks it has. (For "safe"
the collector has to come to its end, too.)

Why no other stories are needed, whatever the heap: call a white object exposed if a scanned thread holds it or a
black object has it in a slot. The collector alone comes to each state without exposed objects, in some heap. So a
run with as few thread steps as possible begins with a step that exposes an object, and there are only three: a
scanned thread makes a white object; it loads one from a grey object; an unscanned thread stores one into a black
object. A table that stops all stories of a property keeps up by each step that exposed objects of a kind, held or
in slots, do not exist or are covered: if all of them by slots of grey objects, because what is taken out of such
a slot is shaded, and so is what scanned threads load from white objects; otherwise because what is taken out of
slots of grey and of white objects is shaded.

An object is lost exactly if it is exposed and not covered at the end. If the table rescans, only those in slots
of black objects are. To come to the end, the thread that stored the object drops it.
"""

from shadebarriers.marks import SLOT_WORDS, THREAD_STATES

# The objects of a story. Both threads hold BLACK and GREY, which the opening gives these colours; all others are
# white. FIRST is in a slot of GREY. The story makes FRESH.
BLACK = 0
GREY = 1
FIRST = 2
SECOND = 3
FRESH = 4

# The threads, numbered as their states are in THREAD_STATES: the opening visits the first one only.
VISITED = 0
LATE = 1
OPENING = (("visit", 0), ("scan", 0))

# What BLACK can have in its slot as long as no object is exposed: None, BLACK or GREY.
HARMLESS = {"none": None, "black": 0, "grey": 1}


def stories(word, rescans):
    """The list of the stories that break a property, for tables that rescan or for those that do not."""
    return [_story(old, place, acts) for old, place, acts in _plots(word, rescans)]


def _plots(word, rescans):
    """The stories as tuples (old, place, acts): what BLACK has, where SECOND is, and pairs (lacks, step)."""
    if word == "strong":
        return [*_late_stores(), *_stores_of_made(), *_stores_of_loaded()]
    if word == "weak" or (word == "safe" and rescans):
        plots = [*_late_stores(), *_stores_of_made(), *_stores_of_uncovered(), *_swaps()]
        return plots if word == "weak" else _then_dropped(plots)
    if word == "safe":
        return [_making(), *_cuts_at_grey(), *_cuts_at_white(), *_then_dropped([*_late_stores(), *_swaps()])]
    if word == "clean":
        return [_making(), _loading(), *_then_loaded(_late_stores())]
    further = _cuts_at_white() if word == "covered" else [_loading_below()]
    return [_making(), *_cuts_at_grey(), *further, *_then_loaded([*_late_stores(), *_swaps()])]


def _story(old, place, acts):
    lacks = sorted({mark for marks, _ in acts for mark in marks})
    return (tuple(lacks), _heap(old, place), tuple([step for _, step in acts]))


def _heap(old, place):
    """Two slots and two threads; SECOND is "apart", "beside" FIRST in GREY, or "below" FIRST."""
    grey = (FIRST, SECOND if place == "beside" else None)
    first = (SECOND if place == "below" else None, None)
    own = {"apart": (SECOND,), "beside": (), "below": (FIRST,)}
    slots = ((HARMLESS[old], None), grey, first, (None, None))
    return (2, slots, ((BLACK, GREY), (BLACK, GREY) + own[place]))


def _making():
    """The visited thread makes a white object."""
    return ("none", "apart", [_make()])


def _loading():
    """The visited thread loads a white object from the grey one."""
    return ("none", "apart", [_load("grey", GREY, 0)])


def _loading_below():
    """The visited thread goes on to a white object that is in a slot of a white one only."""
    return ("none", "below", [_load("grey", GREY, 0), _load("white", FIRST, 0)])


def _cuts_at_grey():
    """The visited thread loads FIRST, which is then taken out of GREY."""
    found = []
    for new in SLOT_WORDS:
        value = HARMLESS.get(new, SECOND)
        acts = [_load("grey", GREY, 0), _cut(VISITED, "grey", new, value)]
        if new == "white":
            # A scanned thread holds only such white objects as it loaded.
            found.append(("none", "beside", [_load("grey", GREY, 1), *acts]))
        else:
            found.append(("none", "apart", acts))
        found.append(("none", "apart", [acts[0], _cut(LATE, "grey", new, value)]))
    return found


def _cuts_at_white():
    """The visited thread loads FIRST and from it SECOND, which is then taken out of FIRST."""
    loads = [_load("grey", GREY, 0), _load("white", FIRST, 0)]
    return [
        ("none", "below", [*loads, _cut(thread, "white", new, HARMLESS.get(new, FIRST))])
        for thread in (VISITED, LATE)
        for new in SLOT_WORDS
    ]


def _late_stores():
    """The thread that is visited late stores a white object into the black one."""
    return [(old, "apart", [_store(LATE, old, SECOND)]) for old in HARMLESS]


def _stores_of_made():
    """The visited thread stores a white object that it made into the black one."""
    return [(old, "apart", [_make(), _store(VISITED, old, FRESH)]) for old in HARMLESS]


def _stores_of_loaded():
    """The visited thread stores a white object that it loaded into the black one."""
    return [(old, "apart", [_load("grey", GREY, 0), _store(VISITED, old, FIRST)]) for old in HARMLESS]


def _stores_of_uncovered():
    """The visited thread stores into the black object what it loaded and what is covered no more."""
    return [
        (old, place, [*acts, _store(VISITED, old, SECOND if place == "below" else FIRST)])
        for _, place, acts in [*_cuts_at_grey(), *_cuts_at_white()]
        for old in HARMLESS
    ]


def _swaps():
    """The late thread puts a white object that is not covered in the place of one that is covered."""
    return [(old, place, [*acts, _store(LATE, "white", SECOND)]) for old, place, acts in _stores_of_loaded()]


def _then_loaded(plots):
    """The plots, at the end of which the visited thread loads what is in the slot of BLACK."""
    return [(old, place, [*acts, _load("black", BLACK, 0)]) for old, place, acts in plots]


def _then_dropped(plots):
    """The plots, at the end of which the thread that made the last store drops the object that it stored."""
    return [(old, place, [*acts, _drop(acts[-1])]) for old, place, acts in plots]


def _make():
    return ([("new", "scanned")], ("new", VISITED))


def _load(colour, holder, slot):
    return ([("load", "scanned", colour)], ("load", VISITED, holder, slot))


def _cut(thread, colour, new, value):
    """A store over a white object in the first slot of GREY or FIRST, which does not shade that object."""
    holder = GREY if colour == "grey" else FIRST
    return ([("store", THREAD_STATES[thread], colour, "white", new, "old")], ("store", thread, holder, 0, value))


def _store(thread, old, value):
    """A store of a white object into BLACK, which shades neither of the two."""
    state = THREAD_STATES[thread]
    lacks = [("store", state, "black", old, "white", who) for who in ("holder", "new")]
    return (lacks, ("store", thread, BLACK, 0, value))


def _drop(act):
    _, store = act
    _, thread, _, _, value = store
    return ([], ("drop", thread, value))
