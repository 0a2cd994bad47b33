"""Point [5]: states."""

import copy
import itertools
import unittest

from shadebarriers.marks import all_marks, known_table
from shadebarriers.states import covered, is_ended, is_state, lost, start
from tests.model import COLOURS, Model, all_heaps, all_states
from tests.thrown import thrown_heap
from tests.values import ANY, booleans_for_integers, integers_for_booleans, lists_for_tuples, same

EMPTY = ((), False)
RESCANS = ((), True)
STATE = (2, ((1, None), (None, 0), (2, 1)), ("black", "white", "grey"), ((0, 1), ()), (True, False))
# Two threads that hold an object each, in a heap of a white object in the slot of a black one.
PAIR = (1, ((1,), (None,)), ("black", "white"), ((0,), (1,)), (True, True))


def ascending(numbers):
    return tuple(sorted(numbers))


class Start(unittest.TestCase):
    def test_all_small_heaps(self):
        for heap in itertools.chain(all_heaps(1, 2, 2), all_heaps(2, 2, 1), all_heaps(1, 0, 3)):
            width, slots, held = heap
            expected = (width, slots, ("white",) * len(slots), held, (False,) * len(held))
            self.assertTrue(same(start(heap), expected))
            self.assertIs(is_state(start(heap)), True)

    def test_edges(self):
        self.assertTrue(same(start((1, (), ((),))), (1, (), (), ((),), (False,))))
        largest = (4, ((11,) * 4,) * 12, (tuple(range(12)),) * 4)
        expected = (4, largest[1], ("white",) * 12, largest[2], (False,) * 4)
        self.assertTrue(same(start(heap=largest), expected))

    def test_somewhat_beyond_the_limits(self):
        heap = (5, ((None,) * 5,) * 14, ((13,),) * 6)
        self.assertEqual(start(heap), (5, heap[1], ("white",) * 14, heap[2], (False,) * 6))

    def test_equal_calls_give_equal_results(self):
        heap = thrown_heap(1, 2, 5, 3)
        again = copy.deepcopy(heap)
        self.assertTrue(same(start(heap), start(heap)))
        self.assertTrue(same(heap, again))


class IsState(unittest.TestCase):
    def test_all_small_states_whether_a_run_comes_to_them_or_not(self):
        for state in itertools.chain(all_states(1, 2, 1), all_states(2, 1, 2), all_states(1, 0, 4)):
            self.assertIs(is_state(state), True)
        self.assertIs(is_state(value=STATE), True)

    def test_states_that_no_run_comes_to(self):
        for state in [
            # Unreachable objects that are black or grey.
            (1, ((None,), (None,)), ("black", "grey"), ((),), (False,)),
            # Nothing has happened to the thread, yet there is a black object.
            (1, ((0,),), ("black",), ((0,),), (False,)),
            (4, ((None,) * 4,) * 12, ("grey",) * 12, ((),) * 4, (True,) * 4),
        ]:
            self.assertIs(is_state(state), True)

    def test_the_heap_must_be_one(self):
        width, slots, colours, held, scanned = STATE
        for wrong in [
            (0, ((), (), ()), colours, held, scanned),
            (1, slots, colours, held, scanned),
            (3, slots, colours, held, scanned),
            (5, ((None,) * 5,) * 3, colours, held, scanned),
            (2, slots[:2] + ((3, None),), colours, held, scanned),
            (2, slots[:2] + ((-1, None),), colours, held, scanned),
            (2, slots[:2] + ((None,),), colours, held, scanned),
            (2, slots, colours, ((1, 0), ()), scanned),
            (2, slots, colours, ((0, 0), ()), scanned),
            (2, slots, colours, ((0, 3), ()), scanned),
            (2, slots, colours, (), ()),
            (2, slots, colours, ((),) * 5, (True,) * 5),
            (1, ((None,),) * 13, ("white",) * 13, ((),), (True,)),
        ]:
            self.assertIs(is_state(wrong), False)

    def test_one_colour_for_each_object(self):
        for objects in range(4):
            for many in range(6):
                for colour in COLOURS:
                    state = (1, ((None,),) * objects, (colour,) * many, ((),), (True,))
                    self.assertIs(is_state(state), many == objects)

    def test_one_boolean_for_each_thread(self):
        for threads in range(1, 5):
            for many in range(7):
                for scanned in (True, False):
                    self.assertIs(is_state((1, (), (), ((),) * threads, (scanned,) * many)), many == threads)

    def test_any_value(self):
        for value in ANY:
            before = copy.deepcopy(value)
            self.assertIs(is_state(value), False)
            self.assertTrue(same(before, value))

    def test_any_value_in_each_place(self):
        for value in ANY + ["Black", "grey ", "none", "black", "grey", ("black", "white", "grey")]:
            for at in range(5):
                changed = STATE[:at] + (value,) + STATE[at + 1:]
                self.assertIs(is_state(changed), same(changed, STATE))
            coloured = STATE[:2] + ((value, "white", "grey"),) + STATE[3:]
            self.assertIs(is_state(coloured), isinstance(value, str) and value in COLOURS)
            scanned = STATE[:4] + ((True, value),)
            self.assertIs(is_state(scanned), isinstance(value, bool))
            self.assertIs(is_state(STATE + (value,)), False)

    def test_too_short(self):
        for at in range(5):
            self.assertIs(is_state(STATE[:at]), False)

    def test_a_heap_is_no_state(self):
        self.assertIs(is_state((1, ((None,),), ((0,),))), False)

    def test_lists_in_place_of_tuples(self):
        wrong = lists_for_tuples(STATE)
        self.assertEqual(len(wrong), 10)
        for value in wrong:
            self.assertIs(is_state(value), False)

    def test_booleans_in_place_of_integers_and_the_other_way(self):
        for state in (STATE, PAIR, start((1, ((0,),), ((0,),)))):
            self.assertIs(is_state(state), True)
            wrong = booleans_for_integers(state) + integers_for_booleans(state)
            self.assertGreater(len(wrong), 3)
            for value in wrong:
                self.assertIs(is_state(value), False)


class IsEnded(unittest.TestCase):
    def test_all_small_states(self):
        for state in itertools.chain(all_states(1, 2, 2), all_states(1, 0, 3)):
            model = Model(state)
            for table in (EMPTY, RESCANS):
                self.assertIs(is_ended(table, state), model.is_ended(table))

    def test_only_the_rescan_of_a_table_matters(self):
        marks = all_marks()
        for state in all_states(1, 1, 2):
            self.assertIs(is_ended((marks, False), state), is_ended(EMPTY, state))
            self.assertIs(is_ended((marks, True), state), is_ended(RESCANS, state))

    def test_with_and_without_a_rescan(self):
        self.assertIs(is_ended(EMPTY, PAIR), True)
        self.assertIs(is_ended(RESCANS, PAIR), False)
        self.assertIs(is_ended(table=RESCANS, state=PAIR[:3] + (((0,), ()),) + PAIR[4:]), True)

    def test_white_objects_that_no_thread_holds_do_not_matter(self):
        state = (1, ((1,), (None,)), ("black", "white"), ((0,), ()), (True, True))
        self.assertIs(is_ended(RESCANS, state), True)

    def test_one_grey_object_is_enough_also_an_unreachable_one(self):
        for at in range(12):
            colours = tuple("grey" if number == at else "black" for number in range(12))
            state = (1, ((None,),) * 12, colours, ((),), (True,))
            self.assertIs(is_ended(EMPTY, state), False)

    def test_one_unscanned_thread_is_enough_also_one_that_holds_nothing(self):
        for at in range(4):
            scanned = tuple(thread != at for thread in range(4))
            self.assertIs(is_ended(EMPTY, (1, (), (), ((),) * 4, scanned)), False)
            self.assertIs(is_ended(RESCANS, (1, (), (), ((),) * 4, (True,) * 4)), True)

    def test_the_start_is_never_ended(self):
        for heap in all_heaps(1, 2, 1):
            self.assertIs(is_ended(EMPTY, start(heap)), False)
            self.assertIs(is_ended(RESCANS, start(heap)), False)


class Lost(unittest.TestCase):
    def test_all_small_states(self):
        for state in itertools.chain(all_states(1, 3, 1), all_states(2, 2, 1)):
            self.assertTrue(same(lost(state), ascending(Model(state).lost())))

    def test_whether_threads_are_scanned_does_not_matter(self):
        for state in all_states(1, 2, 2):
            self.assertEqual(lost(state), lost(state[:4] + ((True, True),)))

    def test_ordinary(self):
        self.assertTrue(same(lost(state=STATE), (1,)))
        self.assertEqual(lost(PAIR), (1,))
        self.assertEqual(lost((1, ((1,), (None,)), ("white", "white"), ((), ()), (True, True))), ())

    def test_behind_objects_of_every_colour(self):
        for colour in COLOURS:
            state = (1, ((1,), (None,)), (colour, "white"), ((0,),), (True,))
            self.assertEqual(lost(state), (0, 1) if colour == "white" else (1,))

    def test_ring_of_twelve_and_no_objects(self):
        ring = tuple(((number + 5) % 12,) for number in range(12))
        state = (1, ring, ("white", "black", "grey") * 4, ((), (), (), (11,)), (True,) * 4)
        self.assertEqual(lost(state), (0, 3, 6, 9))
        self.assertTrue(same(lost((1, (), (), ((),), (True,))), ()))


class Covered(unittest.TestCase):
    def test_all_small_states(self):
        for state in itertools.chain(all_states(1, 3, 1), all_states(2, 2, 1)):
            self.assertTrue(same(covered(state), ascending(Model(state).covered())))

    def test_threads_do_not_matter(self):
        for state in all_states(1, 2, 2):
            self.assertEqual(covered(state), covered(state[:3] + (((), ()), (False, True))))

    def test_chain_of_white_objects_behind_a_grey_one(self):
        chain = tuple((number + 1,) for number in range(11)) + ((None,),)
        for grey in range(12):
            colours = tuple("grey" if number == grey else "white" for number in range(12))
            state = (1, chain, colours, ((),), (False,))
            self.assertEqual(covered(state=state), tuple(range(grey + 1, 12)))

    def test_a_black_or_a_grey_object_between(self):
        slots = ((1,), (2,), (None,))
        for between in COLOURS:
            state = (1, slots, ("grey", between, "white"), ((),), (False,))
            expected = {"black": (), "grey": (2,), "white": (1, 2)}[between]
            self.assertEqual(covered(state), expected)

    def test_own_slots_and_rings(self):
        self.assertEqual(covered((1, ((0,),), ("grey",), ((0,),), (True,))), ())
        self.assertEqual(covered((1, ((0,),), ("white",), ((0,),), (True,))), ())
        self.assertEqual(covered((1, ((1,), (0,)), ("white", "white"), ((0,),), (True,))), ())
        self.assertEqual(covered((1, ((1,), (1,)), ("grey", "white"), ((),), (True,))), (1,))
        self.assertEqual(covered((1, ((1,), (0,)), ("grey", "white"), ((),), (True,))), (1,))

    def test_every_slot_counts(self):
        state = (4, ((None, None, 2, 1), (None,) * 4, (None,) * 4), ("grey", "white", "white"), ((),), (True,))
        self.assertTrue(same(covered(state), (1, 2)))

    def test_no_objects(self):
        self.assertTrue(same(covered((1, (), (), ((),), (True,))), ()))


class Unchanged(unittest.TestCase):
    def test_states_and_tables_are_as_before(self):
        table = known_table("value")
        states = [STATE, PAIR, start(thrown_heap(3, 2, 12, 4))]
        before = copy.deepcopy((table, states))
        for state in states:
            results = [is_state(state), is_ended(table, state), lost(state), covered(state)]
            again = [is_state(state), is_ended(table, state), lost(state), covered(state)]
            self.assertTrue(same(results, again))
        self.assertTrue(same(before, (table, states)))


if __name__ == "__main__":
    unittest.main()
