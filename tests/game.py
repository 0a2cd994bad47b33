"""A search over all small heaps at once, written from the document alone, for tests to compare judgements with.

It leaves threads and collector more freedom than any heap does: no run on a heap with as many objects breaks a
property with fewer thread steps than it finds.

- It begins with all states, of the objects that it looks at, in which no scanned thread holds a white object and no
  black object has one in a slot: with further objects and threads, the collector comes to each of them alone.
- The collector may turn any white object grey at any time, as if it found it from somewhere else.
- All scanned threads are one, which holds all that is not white; all others are one, which is visited at the end
  and which may take hold of anything, as if it had held it from the start.
"""

import itertools

BLACK, GREY = 0, 1
# White objects: held by neither thread, by the scanned one, by the other one, by both.
WHITE, SEEN, KEPT, BOTH = 2, 3, 4, 5
COLOURS = ("black", "grey", "white", "white", "white", "white")
BY_SCANNED = (SEEN, BOTH)
BY_OTHER = (KEPT, BOTH)


class Game:
    def __init__(self, table, word, objects, width):
        self.marks = frozenset(table[0])
        self.rescans = table[1]
        self.word = word
        self.objects = range(objects)
        self.width = width
        # Only at the end it matters what the unscanned thread holds.
        self.tracks = word == "safe"

    def least(self, most):
        """The least number of thread steps, up to this one, behind which a state lacks the property, or None."""
        level = [state for state in self.all_states() if not list(self.exposed(state))]
        self.seen = set(level)
        for many in range(1, most + 1):
            found = []
            for state in level:
                for behind in self.thread_steps(state):
                    self.add(found, behind)
            # The list grows while the collector goes on from what is in it.
            for state in found:
                for behind in self.free_steps(state):
                    self.add(found, behind)
            if any(self.lacks(state) for state in found):
                return many
            level = found
        return None

    def add(self, found, state):
        if state not in self.seen:
            self.seen.add(state)
            found.append(state)

    def all_states(self):
        """All states without objects that scanned threads hold; slots are sorted, since their order is nothing."""
        rows = list(itertools.combinations_with_replacement((-1, *self.objects), self.width))
        own = (BLACK, GREY, WHITE, KEPT) if self.tracks else (BLACK, GREY, WHITE)
        for slots in itertools.product(rows, repeat=len(self.objects)):
            for status in itertools.product(own, repeat=len(self.objects)):
                yield slots, status

    def exposed(self, state):
        slots, status = state
        for at in self.objects:
            if status[at] in BY_SCANNED:
                yield at
            if status[at] == BLACK:
                yield from (entry for entry in slots[at] if entry >= 0 and status[entry] >= WHITE)

    def below(self, state, sources):
        """The white objects in slots of sources."""
        slots, status = state
        return {entry for at in sources for entry in slots[at] if entry >= 0 and status[entry] >= WHITE}

    def found_from(self, state, found):
        while True:
            more = found | self.below(state, found)
            if more == found:
                return found
            found = more

    def lacks(self, state):
        _, status = state
        seen = {at for at in self.objects if status[at] in BY_SCANNED}
        in_black = self.below(state, [at for at in self.objects if status[at] == BLACK])
        in_grey = self.below(state, [at for at in self.objects if status[at] == GREY])
        if self.word == "clean":
            return bool(seen)
        if self.word == "strong":
            return bool(in_black)
        if self.word == "direct":
            return not seen <= in_grey
        if self.word == "safe":
            # At the end the collector has visited all threads.
            in_grey |= {at for at in self.objects if status[at] in BY_OTHER or (self.rescans and at in seen)}
        covered = self.found_from(state, in_grey)
        if self.word == "covered":
            return not seen <= covered
        return not in_black <= covered or (self.word == "safe" and not seen <= covered)

    def free_steps(self, state):
        slots, status = state
        for at in self.objects:
            if status[at] >= WHITE:
                yield slots, changed(status, at, GREY)
                if self.tracks:
                    yield slots, changed(status, at, kept(status[at]))
            if status[at] == GREY:
                behind = changed(status, at, BLACK)
                for entry in self.below(state, [at]):
                    behind = changed(behind, entry, GREY)
                yield slots, behind

    def thread_steps(self, state):
        slots, status = state
        for holder in self.objects:
            scanned = status[holder] < WHITE or status[holder] in BY_SCANNED
            other = not self.tracks or status[holder] < WHITE or status[holder] in BY_OTHER
            for entry in set(slots[holder]):
                if scanned:
                    yield from self.loads(state, holder, entry)
                    yield from self.stores(state, "scanned", holder, entry)
                if other:
                    yield from self.stores(state, "unscanned", holder, entry)
        for at in self.objects:
            if self.is_alone(state, at):
                behind = BLACK if ("new", "scanned") in self.marks else SEEN
                yield slots, changed(status, at, behind)
            if status[at] in BY_SCANNED:
                yield slots, changed(status, at, KEPT if status[at] == BOTH else WHITE)
            if status[at] in BY_OTHER:
                yield slots, changed(status, at, SEEN if status[at] == BOTH else WHITE)

    def is_alone(self, state, at):
        """Whether an object might as well be made only now."""
        slots, status = state
        apart = max(slots[at]) < 0 and not any(at in row for row in slots)
        return apart and status[at] == WHITE

    def loads(self, state, holder, entry):
        slots, status = state
        if entry >= 0 and status[entry] >= WHITE:
            shades = ("load", "scanned", COLOURS[status[holder]]) in self.marks
            behind = BOTH if status[entry] in BY_OTHER else SEEN
            yield slots, changed(status, entry, GREY if shades else behind)

    def stores(self, state, thread, holder, entry):
        slots, status = state
        for value in (-1, *self.objects):
            if value >= 0 and status[value] >= WHITE and not self.has(thread, status[value]):
                continue
            row = list(slots[holder])
            row.remove(entry)
            behind = status
            for who, at in [("holder", holder), ("old", entry), ("new", value)]:
                colours = [self.colour(status, number) for number in (holder, entry, value)]
                if ("store", thread, *colours, who) in self.marks:
                    behind = changed(behind, at, GREY)
            yield changed(slots, holder, tuple(sorted([*row, value]))), behind

    def has(self, thread, own):
        if thread == "scanned":
            return own in BY_SCANNED
        return not self.tracks or own in BY_OTHER

    def colour(self, status, at):
        return "none" if at < 0 else COLOURS[status[at]]


def kept(own):
    return BOTH if own in BY_SCANNED else KEPT


def changed(items, at, item):
    return items[:at] + (item,) + items[at + 1:]


def least_break(table, word, objects, width, most):
    return Game(table, word, objects, width).least(most)
