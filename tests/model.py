"""States and steps written down from the document once more, slowly and in other words, for tests to compare with."""

import itertools

COLOURS = ("black", "grey", "white")
WORDS = ("drop", "load", "new", "scan", "store", "visit")
NUMBERS = {"drop": 2, "load": 3, "new": 1, "scan": 1, "store": 4, "visit": 1}


class Model:
    """A state taken apart."""

    def __init__(self, state):
        self.width, slots, colours, held, scanned = state
        self.content = {(at, slot): entry for at, row in enumerate(slots) for slot, entry in enumerate(row)}
        self.colour = dict(enumerate(colours))
        self.held = {thread: set(own) for thread, own in enumerate(held)}
        self.scanned = dict(enumerate(scanned))

    def state(self):
        slots = tuple(
            tuple(self.content[at, slot] for slot in range(self.width)) for at in range(len(self.colour))
        )
        colours = tuple(self.colour[at] for at in range(len(self.colour)))
        held = tuple(tuple(sorted(self.held[thread])) for thread in range(len(self.held)))
        return (self.width, slots, colours, held, tuple(self.scanned[thread] for thread in range(len(self.held))))

    def is_white(self, entry):
        return entry is not None and self.colour[entry] == "white"

    def colour_or_none(self, entry):
        return "none" if entry is None else self.colour[entry]

    def points(self, one, other):
        return any(self.content[one, slot] == other for slot in range(self.width))

    def reachable(self):
        found = set().union(*self.held.values())
        while True:
            more = found | {other for one in found for other in self.colour if self.points(one, other)}
            if more == found:
                return found
            found = more

    def lost(self):
        return {number for number in self.reachable() if self.is_white(number)}

    def covered(self):
        found = set()
        while True:
            sources = found | {number for number in self.colour if self.colour[number] == "grey"}
            more = {
                number for number in self.colour
                if self.is_white(number) and any(self.points(one, number) for one in sources)
            }
            if more == found:
                return found
            found = more

    def is_ended(self, table):
        if any(colour == "grey" for colour in self.colour.values()):
            return False
        if not all(self.scanned.values()):
            return False
        held = set().union(*self.held.values())
        return not (table[1] and any(self.is_white(number) for number in held))

    def has(self, table, word):
        black_to_white = [
            number for number in self.colour if self.is_white(number)
            if any(self.colour[one] == "black" and self.points(one, number) for one in self.colour)
        ]
        exposed = [
            number for number in self.colour if self.is_white(number)
            if any(self.scanned[thread] and number in own for thread, own in self.held.items())
        ]
        if word == "safe":
            return not (self.is_ended(table) and self.lost())
        if word == "strong":
            return not black_to_white
        if word == "weak":
            return set(black_to_white) <= self.covered()
        if word == "clean":
            return not exposed
        if word == "direct":
            return all(
                any(self.colour[one] == "grey" and self.points(one, number) for one in self.colour)
                for number in exposed
            )
        return set(exposed) <= self.covered()

    def error(self, table, step):
        """The name and the value of the first error of a step, or None: all that is wrong with it, from the left."""
        if self.is_ended(table):
            return ("Ended", None)
        word, *rest = step
        if word == "scan":
            return self.first([
                (rest[0] not in self.colour, "NoObject", rest[0]),
                (self.colour.get(rest[0]) != "grey", "NotGrey", rest[0]),
            ])
        own = self.held.get(rest[0], set())
        wrong = [(rest[0] not in self.held, "NoThread", rest[0])]
        if word == "new":
            wrong.append((len(self.colour) == 12, "Full", None))
        if word == "visit":
            wrong.append((self.scanned.get(rest[0]) and not table[1], "Visited", rest[0]))
        if word in ("drop", "load", "store"):
            wrong.append((rest[1] not in self.colour, "NoObject", rest[1]))
            wrong.append((rest[1] not in own, "NotHeld", rest[1]))
        if word in ("load", "store"):
            wrong.append((rest[2] >= self.width, "NoSlot", rest[2]))
        if word == "load":
            wrong.append((self.content.get((rest[1], rest[2])) is None, "EmptySlot", rest[2]))
        if word == "store" and rest[3] is not None:
            wrong.append((rest[3] not in self.colour, "NoObject", rest[3]))
            wrong.append((rest[3] not in own, "NotHeld", rest[3]))
        return self.first(wrong)

    @staticmethod
    def first(wrong):
        return next(((name, value) for is_wrong, name, value in wrong if is_wrong), None)

    def make(self, table, step):
        """Makes a step that is possible."""
        marks = table[0]
        word, *rest = step
        if word == "scan":
            for slot in range(self.width):
                if self.is_white(self.content[rest[0], slot]):
                    self.colour[self.content[rest[0], slot]] = "grey"
            self.colour[rest[0]] = "black"
            return
        thread = rest[0]
        seen = "scanned" if self.scanned[thread] else "unscanned"
        if word == "drop":
            self.held[thread].remove(rest[1])
        elif word == "visit":
            self.scanned[thread] = True
            for number in self.held[thread]:
                if self.colour[number] == "white":
                    self.colour[number] = "grey"
        elif word == "new":
            number = len(self.colour)
            self.colour[number] = "black" if ("new", seen) in marks else "white"
            self.content.update({(number, slot): None for slot in range(self.width)})
            self.held[thread].add(number)
        elif word == "load":
            _, holder, slot = rest
            loaded = self.content[holder, slot]
            shade = self.is_white(loaded) and ("load", seen, self.colour[holder]) in marks
            self.held[thread].add(loaded)
            if shade:
                self.colour[loaded] = "grey"
        else:
            self.store(marks, seen, *rest[1:])

    def store(self, marks, seen, holder, slot, value):
        old = self.content[holder, slot]
        colours = (self.colour[holder], self.colour_or_none(old), self.colour_or_none(value))
        shade = [
            number for who, number in [("holder", holder), ("old", old), ("new", value)]
            if ("store", seen, *colours, who) in marks
        ]
        self.content[holder, slot] = value
        for number in shade:
            self.colour[number] = "grey"


def model_after(table, state, step):
    model = Model(state)
    model.make(table, step)
    return model.state()


def all_steps(threads, objects, slots):
    """All steps with numbers below these; objects as holders, values and objects of drops and scans."""
    values = [None, *range(objects)]
    steps = [("drop", *rest) for rest in itertools.product(range(threads), range(objects))]
    steps += [("load", *rest) for rest in itertools.product(range(threads), range(objects), range(slots))]
    steps += [("new", thread) for thread in range(threads)]
    steps += [("scan", number) for number in range(objects)]
    steps += [
        ("store", *rest) for rest in itertools.product(range(threads), range(objects), range(slots), values)
    ]
    steps += [("visit", thread) for thread in range(threads)]
    return steps


def all_heaps(width, objects, threads):
    """All heaps with so many slots, objects and threads."""
    entries = [None, *range(objects)]
    rows = list(itertools.product(entries, repeat=width))
    holdings = [own for many in range(objects + 1) for own in itertools.combinations(range(objects), many)]
    for slots in itertools.product(rows, repeat=objects):
        for held in itertools.product(holdings, repeat=threads):
            yield (width, slots, held)


def all_states(width, objects, threads):
    """All states with so many slots, objects and threads, also those that no run comes to."""
    for _, slots, held in all_heaps(width, objects, threads):
        for colours in itertools.product(COLOURS, repeat=objects):
            for scanned in itertools.product((False, True), repeat=threads):
                yield (width, slots, colours, held, scanned)
