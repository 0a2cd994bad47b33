"""Points [5], [6] and [7]: what steps do, how marks shade, which steps are possible, and the errors."""

import copy
import itertools
import unittest

from shadebarriers import errors
from shadebarriers.marks import all_marks, known_table
from shadebarriers.states import is_ended, is_state, start
from shadebarriers.steps import after, is_step, possible
from tests.model import COLOURS, NUMBERS, WORDS, Model, all_states, all_steps, model_after
from tests.thrown import picks, thrown_heap
from tests.values import ANY, same

EMPTY = ((), False)
RESCANS = ((), True)
FULL = (all_marks(), False)
TABLES = [EMPTY, RESCANS, FULL, (all_marks()[::2], True), (all_marks()[1::2], False)]
GREAT = 10**5000
ONE_OF_EACH = [
    ("drop", 0, 0), ("load", 0, 0, 0), ("new", 0), ("scan", 0), ("store", 0, 0, 0, None), ("store", 0, 0, 0, 0),
    ("visit", 0),
]


def seen(scanned):
    return "scanned" if scanned else "unscanned"


def outcome(table, state, step):
    """The state after a step, or the name and the value of its error."""
    try:
        return after(table, state, step)
    except errors.ShadeError as error:
        kept = list(vars(error).values())
        return (type(error).__name__, kept[0] if kept else None)


def model_outcome(table, state, step):
    return Model(state).error(table, step) or model_after(table, state, step)


def order(step):
    """The key by which possible steps are sorted."""
    return (WORDS.index(step[0]), [-1 if number is None else number for number in step[1:]])


class IsStep(unittest.TestCase):
    def test_each_kind(self):
        for number in (0, 1, 4, 12, 13, 10**9, GREAT):
            for word, many in NUMBERS.items():
                self.assertIs(is_step((word,) + (number,) * many), True)
        self.assertIs(is_step(("store", 0, 0, 0, None)), True)
        self.assertIs(is_step(value=("new", 0)), True)

    def test_too_few_and_too_many_numbers(self):
        for word, many in NUMBERS.items():
            for length in range(8):
                self.assertIs(is_step((word,) + (0,) * length), length == many, word)
                self.assertIs(is_step((word,) + (0,) * length + (None,)), word == "store" and length == 3)
        self.assertIs(is_step(()), False)

    def test_none_only_as_the_value_of_a_store(self):
        for step in ONE_OF_EACH:
            for at in range(len(step)):
                changed = step[:at] + (None,) + step[at + 1:]
                self.assertIs(is_step(changed), step[0] == "store" and at == 4, changed)

    def test_negative_numbers(self):
        for step in ONE_OF_EACH:
            for at in range(1, len(step)):
                for number in (-1, -2, -GREAT):
                    self.assertIs(is_step(step[:at] + (number,) + step[at + 1:]), False)

    def test_any_value(self):
        for value in ANY + ["new", ["new", 0], {"new": 0}, list(ONE_OF_EACH[1]), tuple(ONE_OF_EACH)]:
            before = copy.deepcopy(value)
            self.assertIs(is_step(value), False)
            self.assertTrue(same(before, value))

    def test_any_value_in_each_place(self):
        for value in ANY:
            number = isinstance(value, int) and not isinstance(value, bool) and value >= 0
            for step in ONE_OF_EACH:
                for at in range(1, len(step)):
                    expected = number or (value is None and step[0] == "store" and at == 4)
                    self.assertIs(is_step(step[:at] + (value,) + step[at + 1:]), expected)
                self.assertIs(is_step((value,) + step[1:]), same(value, step[0]))
                self.assertIs(is_step(list(step)), False)

    def test_other_words(self):
        for word in ("New", "new ", "", "loads", "undo", "collect", ("new",), ["new"], b"new"):
            for length in range(5):
                self.assertIs(is_step((word,) + (0,) * length), False)


class Effects(unittest.TestCase):
    """What steps do, and their errors, compared with the model in all small states."""

    def check(self, table, state, steps):
        for step in steps:
            got = outcome(table, state, step)
            self.assertTrue(same(got, model_outcome(table, state, step)), (table[1], state, step))

    def test_one_thread_and_two_objects(self):
        steps = all_steps(2, 3, 2)
        for table in (FULL, RESCANS):
            for state in all_states(1, 2, 1):
                self.check(table, state, steps)

    def test_two_slots(self):
        steps = all_steps(1, 2, 3)
        for state in itertools.islice(all_states(2, 2, 1), 0, None, 7):
            self.check(FULL, state, steps)

    def test_two_threads(self):
        steps = all_steps(3, 2, 1)
        # Marks for threads in one state only, so that it shows which thread's state is asked for.
        unscanned = tuple(mark for mark in all_marks() if mark[1] == "unscanned")
        scanned = tuple(mark for mark in all_marks() if mark[1] == "scanned")
        for state in itertools.islice(all_states(1, 2, 2), 0, None, 5):
            self.check((unscanned, False), state, steps)
            self.check((scanned, True), state, steps)

    def test_three_objects(self):
        steps = all_steps(1, 3, 1)
        for state in itertools.islice(all_states(1, 3, 1), 0, None, 23):
            self.check((all_marks()[1::2], False), state, steps)

    def test_known_tables(self):
        steps = all_steps(1, 2, 1)
        for word in ("value", "holder", "old", "both", "load"):
            for state in all_states(1, 2, 1):
                self.check(known_table(word), state, steps)

    def test_states_come_out(self):
        for table in TABLES:
            for state in itertools.islice(all_states(1, 2, 2), 0, None, 11):
                for step in possible(table, state):
                    self.assertIs(is_state(after(table, state, step)), True)

    def test_arguments_by_name_and_nothing_changed(self):
        for table in TABLES:
            for state in itertools.islice(all_states(2, 2, 1), 0, None, 101):
                for step in possible(table, state):
                    before = copy.deepcopy((table, state, step))
                    by_position = after(table, state, step)
                    self.assertTrue(same(after(step=step, state=state, table=table), by_position))
                    self.assertTrue(same(before, (table, state, step)))


class Edges(unittest.TestCase):
    """The edges that the document names, written out."""

    def test_holder_value_and_old_content_the_same_object(self):
        for scanned in (False, True):
            for colour in COLOURS:
                # An unscanned thread more, so that no state here is ended.
                state = (1, ((0,),), (colour,), ((0,), ()), (scanned, False))
                for mark in all_marks():
                    hit = mark[:5] == ("store", seen(scanned), colour, colour, colour)
                    expected = state[:2] + (("grey",) if hit else (colour,),) + state[3:]
                    self.assertEqual(after(((mark,), False), state, ("store", 0, 0, 0, 0)), expected)
                    emptied = ("store", seen(scanned), colour, colour, "none")
                    expected = (1, ((None,),), ("grey",) if mark[:5] == emptied else (colour,)) + state[3:]
                    self.assertEqual(after(((mark,), False), state, ("store", 0, 0, 0, None)), expected)

    def test_colours_are_those_ahead_of_the_step(self):
        # All three are white, so that no mark for a grey or black one applies, although all become grey.
        whites = tuple(("store", "unscanned", "white", "white", "white", who) for who in ("holder", "new", "old"))
        later = [mark for mark in all_marks() if mark[0] == "store" and "white" not in mark[2:5]]
        state = (1, ((1,), (None,), (None,), (None,)), ("white",) * 3 + ("black",), ((0, 2),), (False,))
        got = after((whites, False), state, ("store", 0, 0, 0, 2))
        self.assertEqual(got[1:3], (((2,), (None,), (None,), (None,)), ("grey", "grey", "grey", "black")))
        self.assertEqual(after((tuple(later), False), state, ("store", 0, 0, 0, 2))[2], state[2])
        only_new = ((("store", "unscanned", "white", "white", "white", "new"),), False)
        self.assertEqual(after(only_new, state, ("store", 0, 0, 0, 2))[2], ("white", "white", "grey", "black"))

    def test_a_black_holder_becomes_grey(self):
        mark = ("store", "scanned", "black", "none", "white", "holder")
        state = (1, ((None,), (None,)), ("black", "white"), ((0, 1),), (True,))
        self.assertEqual(after(((mark,), True), state, ("store", 0, 0, 0, 1))[2], ("grey", "white"))
        self.assertEqual(after(((mark,), True), state, ("store", 0, 0, 0, 0))[2], ("black", "white"))
        self.assertEqual(after(((mark,), True), state, ("store", 0, 0, 0, None))[2], ("black", "white"))

    def test_a_thread_loads_what_it_holds(self):
        for colour in COLOURS:
            for scanned in (False, True):
                state = (1, ((1,), (None,)), (colour, "white"), ((0, 1), ()), (scanned, False))
                self.assertEqual(after(EMPTY, state, ("load", 0, 0, 0)), state)
                table = ((("load", seen(scanned), colour),), False)
                shaded = state[:2] + ((colour, "grey"),) + state[3:]
                self.assertEqual(after(table, state, ("load", 0, 0, 0)), shaded)

    def test_a_thread_loads_the_holder_itself(self):
        state = (1, ((0,),), ("white",), ((0,),), (False,))
        self.assertEqual(after(EMPTY, state, ("load", 0, 0, 0)), state)
        table = ((("load", "unscanned", "white"),), False)
        self.assertEqual(after(table, state, ("load", 0, 0, 0)), (1, ((0,),), ("grey",), ((0,),), (False,)))

    def test_only_white_objects_are_shaded_at_a_load(self):
        for holder, loaded in itertools.product(COLOURS, repeat=2):
            for scanned in (False, True):
                state = (1, ((1,), (None,)), (holder, loaded), ((0,), ()), (scanned, False))
                expected = (holder, "grey" if loaded == "white" else loaded)
                self.assertEqual(after(FULL, state, ("load", 0, 0, 0))[2], expected)

    def test_what_is_loaded_is_held_in_order_by_this_thread_alone(self):
        state = (2, ((None, 1), (None, None), (0, 1)), ("white",) * 3, ((2,), (0, 2), (2,)), (False,) * 3)
        self.assertEqual(after(EMPTY, state, ("load", 1, 2, 1))[3], ((2,), (0, 1, 2), (2,)))
        self.assertEqual(after(EMPTY, state, ("load", 2, 2, 0))[3], ((2,), (0, 2), (0, 2)))

    def test_new_objects(self):
        for scanned in (False, True):
            for mark in all_marks():
                state = (2, ((0, 0),), ("grey",), ((), (0,), ()), (not scanned, scanned, not scanned))
                expected = "black" if mark == ("new", seen(scanned)) else "white"
                got = after(((mark,), False), state, ("new", 1))
                self.assertEqual(got, (2, ((0, 0), (None, None)), ("grey", expected), ((), (0, 1), ()), state[4]))

    def test_new_objects_in_a_heap_without_any(self):
        state = start((3, (), ((),)))
        self.assertEqual(after(EMPTY, state, ("new", 0)), (3, ((None,) * 3,), ("white",), ((0,),), (False,)))

    def test_drop_changes_only_what_the_thread_holds(self):
        state = (1, ((1,), (None,)), ("white", "grey"), ((0, 1), (0, 1)), (True, False))
        for table in TABLES:
            self.assertEqual(after(table, state, ("drop", 1, 0)), state[:3] + (((0, 1), (1,)), state[4]))

    def test_visits_again_with_and_without_a_rescan(self):
        state = (1, ((None,), (None,), (2,)), ("white", "grey", "black"), ((0, 2),), (True,))
        again = after(RESCANS, state, ("visit", 0))
        self.assertEqual(again, (1, state[1], ("grey", "grey", "black"), ((0, 2),), (True,)))
        self.assertEqual(after(RESCANS, again, ("visit", 0)), again)
        self.assertEqual(outcome(EMPTY, state, ("visit", 0)), ("Visited", 0))
        self.assertNotIn(("visit", 0), possible(EMPTY, state))
        self.assertIn(("visit", 0), possible(RESCANS, again))

    def test_visit_changes_this_thread_alone(self):
        state = (1, ((1,), (None,), (None,)), ("white",) * 3, ((0,), (2,), ()), (False,) * 3)
        got = after(EMPTY, state, ("visit", 0))
        self.assertEqual(got, state[:2] + (("grey", "white", "white"), state[3], (True, False, False)))
        self.assertEqual(after(EMPTY, state, ("visit", 2))[2:], (("white",) * 3, state[3], (False, False, True)))

    def test_scan_of_an_object_in_its_own_slot(self):
        state = (2, ((0, 1), (None, None)), ("grey", "white"), ((),), (False,))
        self.assertEqual(after(EMPTY, state, ("scan", 0))[2], ("black", "grey"))

    def test_scan_leaves_black_objects_and_those_further_on(self):
        state = (2, ((1, 2), (None, None), (3, 3), (None, None)), ("grey", "black", "white", "white"), ((),), (False,))
        self.assertEqual(after(EMPTY, state, ("scan", 0))[2], ("black", "black", "grey", "white"))


class SingleMarks(unittest.TestCase):
    """Each mark alone, at each store, load and new object."""

    def test_stores(self):
        places = [None, *COLOURS]
        for scanned, holder, old, new in itertools.product((False, True), COLOURS, places, places):
            colours = (holder, old or "black", new or "black")
            slots = ((None if old is None else 1,), (None,), (None,))
            state = (1, slots, colours, ((0, 2), ()), (scanned, False))
            step = ("store", 0, 0, 0, None if new is None else 2)
            for mark in all_marks():
                hit = mark[:5] == ("store", seen(scanned), holder, old or "none", new or "none")
                expected = list(colours)
                if hit:
                    expected[["holder", "old", "new"].index(mark[5])] = "grey"
                self.assertEqual(after(((mark,), False), state, step)[2], tuple(expected))

    def test_loads(self):
        for scanned, holder in itertools.product((False, True), COLOURS):
            state = (1, ((1,), (None,)), (holder, "white"), ((0,), ()), (scanned, False))
            for mark in all_marks():
                hit = mark == ("load", seen(scanned), holder)
                got = after(((mark,), True), state, ("load", 0, 0, 0))
                self.assertEqual(got, state[:2] + ((holder, "grey" if hit else "white"), ((0, 1), ()), state[4]))

    def test_no_mark_applies_to_drops_visits_and_scans(self):
        state = (1, ((1,), (1,)), ("grey", "white"), ((0, 1),), (False,))
        for step in [("drop", 0, 0), ("drop", 0, 1), ("visit", 0), ("scan", 0)]:
            self.assertEqual(after(FULL, state, step), after(EMPTY, state, step))


class Errors(unittest.TestCase):
    def expect(self, table, state, step, name, kept):
        before = copy.deepcopy((table, state, step))
        with self.assertRaises(getattr(errors, name)) as caught:
            after(table, state, step)
        self.assertTrue(same(list(vars(caught.exception).values()), kept), (step, name))
        with self.assertRaises(getattr(errors, name)):
            after(table=table, state=state, step=step)
        self.assertTrue(same(before, (table, state, step)))

    def test_not_a_step_ahead_of_all_others(self):
        ended = (1, (), (), ((),), (True,))
        wrong = [("new",), ("new", -1), ("new", True), ["new", 0], ("drop", 0), ("load", 0, 0, None), ("undo", 0)]
        for value in ANY + wrong:
            for state in (ended, start((1, ((None,),), ((0,),)))):
                self.expect(EMPTY, state, value, "BadStep", [value])

    def test_ended_ahead_of_all_others_but_that(self):
        state = (1, ((None,),), ("black",), ((0,),), (True,))
        for table in (EMPTY, RESCANS, FULL):
            for step in all_steps(3, 3, 3) + [("new", GREAT), ("scan", GREAT)]:
                self.expect(table, state, step, "Ended", [])

    def test_ended_with_and_without_a_rescan(self):
        state = (1, ((None,),), ("white",), ((0,),), (True,))
        self.expect(EMPTY, state, ("visit", 0), "Ended", [])
        self.expect(EMPTY, state, ("drop", 0, 0), "Ended", [])
        self.assertEqual(after(RESCANS, state, ("visit", 0))[2], ("grey",))
        self.assertEqual(after(RESCANS, state, ("drop", 0, 0))[3], ((),))

    def test_each_error_with_the_ones_behind_it(self):
        # Thread 0 holds 0 and 1 of three objects of two slots; slot 1 of object 0 has None.
        state = start((2, ((1, None), (None, None), (None, None)), ((0, 1), ())))
        for far in (9, 13, GREAT):
            for step, name, kept in [
                (("load", far, far, far), "NoThread", far), (("load", 2, 0, 0), "NoThread", 2),
                (("load", 0, far, far), "NoObject", far), (("load", 0, 3, 0), "NoObject", 3),
                (("load", 0, 2, far), "NotHeld", 2), (("load", 1, 0, 0), "NotHeld", 0),
                (("load", 0, 0, far), "NoSlot", far), (("load", 0, 0, 2), "NoSlot", 2),
                (("load", 0, 0, 1), "EmptySlot", 1), (("load", 0, 1, 0), "EmptySlot", 0),
                (("store", far, far, far, far), "NoThread", far), (("store", 2, 0, 0, None), "NoThread", 2),
                (("store", 0, far, far, far), "NoObject", far), (("store", 0, 3, 0, None), "NoObject", 3),
                (("store", 0, 2, far, far), "NotHeld", 2), (("store", 1, 1, 0, None), "NotHeld", 1),
                (("store", 0, 0, far, far), "NoSlot", far), (("store", 0, 0, 2, 2), "NoSlot", 2),
                (("store", 0, 0, 2, None), "NoSlot", 2),
                (("store", 0, 0, 1, far), "NoObject", far), (("store", 0, 0, 1, 3), "NoObject", 3),
                (("store", 0, 0, 1, 2), "NotHeld", 2),
                (("new", far), "NoThread", far), (("new", 2), "NoThread", 2),
                (("drop", far, far), "NoThread", far), (("drop", 2, 0), "NoThread", 2),
                (("drop", 0, far), "NoObject", far), (("drop", 0, 3), "NoObject", 3),
                (("drop", 0, 2), "NotHeld", 2), (("drop", 1, 0), "NotHeld", 0),
                (("visit", far), "NoThread", far), (("visit", 2), "NoThread", 2),
                (("scan", far), "NoObject", far), (("scan", 3), "NoObject", 3), (("scan", 2), "NotGrey", 2),
            ]:
                self.expect(EMPTY, state, step, name, [kept])

    def test_scan_needs_grey(self):
        state = (1, ((None,),) * 3, COLOURS, ((),), (False,))
        self.expect(EMPTY, state, ("scan", 0), "NotGrey", [0])
        self.assertEqual(after(EMPTY, state, ("scan", 1))[2], ("black", "black", "white"))
        self.expect(EMPTY, state, ("scan", 2), "NotGrey", [2])

    def test_scan_and_drop_of_an_object_far_away_without_any_objects(self):
        state = start((1, (), ((),)))
        self.expect(EMPTY, state, ("scan", 0), "NoObject", [0])
        self.expect(EMPTY, state, ("drop", 0, 0), "NoObject", [0])

    def test_visited(self):
        state = (1, (), (), ((), ()), (True, False))
        self.expect(EMPTY, state, ("visit", 0), "Visited", [0])
        self.expect(FULL, state, ("visit", 0), "Visited", [0])
        self.assertEqual(after(RESCANS, state, ("visit", 0)), state)
        self.assertEqual(after(EMPTY, state, ("visit", 1))[4], (True, True))
        self.expect(EMPTY, (1, (), (), ((), ()), (False, True)), ("visit", 1), "Visited", [1])

    def test_twelve_objects(self):
        eleven = start((4, ((None,) * 4,) * 11, ((), ())))
        twelve = after(EMPTY, eleven, ("new", 1))
        self.assertEqual(twelve[1:4], (((None,) * 4,) * 12, ("white",) * 12, ((), (11,))))
        self.expect(EMPTY, twelve, ("new", 0), "Full", [])
        self.expect(FULL, twelve, ("new", 1), "Full", [])
        self.expect(EMPTY, twelve, ("new", 2), "NoThread", [2])
        self.assertEqual([step for step in possible(EMPTY, twelve) if step[0] == "new"], [])
        self.assertEqual([step for step in possible(EMPTY, eleven) if step[0] == "new"], [("new", 0), ("new", 1)])


class Possible(unittest.TestCase):
    def check(self, table, state, candidates):
        expected = [step for step in candidates if Model(state).error(table, step) is None]
        self.assertTrue(same(possible(table, state), tuple(sorted(expected, key=order))), (table[1], state))

    def test_all_small_states(self):
        candidates = all_steps(2, 3, 2)
        for table in (EMPTY, RESCANS):
            for state in itertools.chain(all_states(1, 2, 1), itertools.islice(all_states(1, 2, 2), 0, None, 7)):
                self.check(table, state, candidates)

    def test_two_slots_and_three_objects(self):
        candidates = all_steps(1, 3, 2)
        for state in itertools.chain(
            itertools.islice(all_states(2, 2, 1), 0, None, 13), itertools.islice(all_states(1, 3, 1), 0, None, 41)
        ):
            self.check(FULL, state, candidates)

    def test_possible_is_what_after_accepts(self):
        for table in TABLES:
            for state in itertools.islice(all_states(1, 2, 2), 0, None, 29):
                accepted = [step for step in all_steps(3, 3, 2) if len(outcome(table, state, step)) == 5]
                self.assertEqual(possible(table, state), tuple(sorted(accepted, key=order)))

    def test_order(self):
        state = (1, ((1,), (0,)), ("grey", "white"), ((0, 1), ()), (False, True))
        self.assertTrue(same(possible(EMPTY, state), (
            ("drop", 0, 0), ("drop", 0, 1),
            ("load", 0, 0, 0), ("load", 0, 1, 0),
            ("new", 0), ("new", 1),
            ("scan", 0),
            ("store", 0, 0, 0, None), ("store", 0, 0, 0, 0), ("store", 0, 0, 0, 1),
            ("store", 0, 1, 0, None), ("store", 0, 1, 0, 0), ("store", 0, 1, 0, 1),
            ("visit", 0),
        )))
        self.assertEqual(possible(table=RESCANS, state=state), possible(EMPTY, state) + (("visit", 1),))

    def test_numbers_are_sorted_as_numbers(self):
        everything = tuple(range(12))
        state = start((1, tuple((number,) for number in range(12)), (everything, everything)))
        got = possible(EMPTY, state)
        self.assertEqual(len(got), 24 + 24 + 24 * 13 + 2)
        self.assertEqual(got, tuple(sorted(got, key=order)))
        self.assertEqual(len(set(got)), len(got))

    def test_ended(self):
        for table in TABLES:
            for state in all_states(1, 1, 2):
                self.assertEqual(possible(table, state) == (), is_ended(table, state))
        self.assertTrue(same(possible(EMPTY, (1, (), (), ((),), (True,))), ()))

    def test_nothing_held_and_no_objects(self):
        expected = (("new", 0), ("new", 1), ("visit", 0), ("visit", 1))
        self.assertEqual(possible(EMPTY, start((1, (), ((), ())))), expected)
        self.assertEqual(possible(EMPTY, start((1, ((0,),), ((),)))), (("new", 0), ("visit", 0)))


class LongRuns(unittest.TestCase):
    """On larger heaps the package and the model go the same ways."""

    def test_same_states_all_along(self):
        for seed in range(12):
            table = (TABLES + [known_table("both"), known_table("load")])[seed % 7]
            source = picks(seed)
            state = start(thrown_heap(seed, seed % 4 + 1, seed % 12 + 1, seed % 3 + 2))
            for _ in range(200):
                steps = [step for step in possible(table, state) if step[0] != "visit" or next(source) % 20 == 0]
                if not steps:
                    break
                step = steps[next(source) % len(steps)]
                self.assertIsNone(Model(state).error(table, step))
                following = after(table, state, step)
                self.assertTrue(same(following, model_after(table, state, step)))
                state = following


if __name__ == "__main__":
    unittest.main()
