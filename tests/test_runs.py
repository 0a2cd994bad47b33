"""Points [7] and [3](g): runs, and what the collector keeps."""

import copy
import inspect
import itertools
import unittest

from shadebarriers.heaps import reachable
from shadebarriers.marks import all_marks, known_table
from shadebarriers.runs import is_run, states_of, thread_steps, walk
from shadebarriers.states import is_ended, is_state, lost, start
from shadebarriers.steps import after, possible
from tests.model import Model, all_heaps, all_steps, model_after
from tests.thrown import thrown_heap, thrown_run
from tests.values import ANY, booleans_for_integers, lists_for_tuples, same

EMPTY = ((), False)
RESCANS = ((), True)
FULL = (all_marks(), True)
THREAD_WORDS = ("load", "store", "new", "drop")
HEAP = (1, ((1,), (None,)), ((0,),))
RUN = (HEAP, (("visit", 0), ("load", 0, 0, 0), ("store", 0, 0, 0, None), ("scan", 0)))
# One object that is stored into itself again and again; the thread is never visited, so no state is ended.
LOOP = (1, ((None,),), ((0,),))
SAFE = [known_table(word) for word in ("value", "holder", "both", "load")] + [FULL, (all_marks(), False)]


def looped(many):
    return (LOOP, (("store", 0, 0, 0, 0),) * many)


def all_runs(table, heap, most):
    """All runs on a heap with so many steps or fewer."""
    runs = [((heap, ()), start(heap))]
    for run, state in runs:
        yield run
        if len(run[1]) < most:
            runs += [((heap, run[1] + (step,)), after(table, state, step)) for step in possible(table, state)]


def states_within(table, heap, most, objects):
    """All states that runs with at most so many thread steps and objects come to, as a set."""
    found = {}
    waiting = [(start(heap), 0)]
    while waiting:
        state, made = waiting.pop()
        if found.get(state, most + 1) <= made:
            continue
        found[state] = made
        for step in possible(table, state):
            behind = made + (step[0] in THREAD_WORDS)
            if behind <= most and (step[0] != "new" or len(state[1]) < objects):
                waiting.append((after(table, state, step), behind))
    return set(found)


class IsRun(unittest.TestCase):
    def test_ordinary(self):
        self.assertIs(is_run(EMPTY, RUN), True)
        self.assertIs(is_run(value=RUN, table=EMPTY), True)
        for many in range(5):
            self.assertIs(is_run(EMPTY, (HEAP, RUN[1][:many])), True)

    def test_all_pairs_of_steps(self):
        candidates = all_steps(2, 2, 2)
        for table in (EMPTY, RESCANS, FULL):
            for steps in itertools.product(candidates, repeat=2):
                model = Model(start(HEAP))
                expected = True
                for step in steps:
                    expected = expected and model.error(table, step) is None
                    if expected:
                        model.make(table, step)
                self.assertIs(is_run(table, (HEAP, steps)), expected)

    def test_each_step_counts_the_ones_ahead_of_it(self):
        for at in range(4):
            # Only without the visit the scan is not possible.
            self.assertIs(is_run(EMPTY, (HEAP, RUN[1][:at] + RUN[1][at + 1:])), at != 0)
            self.assertIs(is_run(EMPTY, (HEAP, RUN[1][:at] + (("load", 0, 1, 0),) + RUN[1][at:])), False)

    def test_no_step_behind_an_ended_state(self):
        self.assertIs(is_run(EMPTY, (HEAP, RUN[1] + (("drop", 0, 0),))), False)
        self.assertIs(is_run(EMPTY, (HEAP, RUN[1] + (("new", 0),))), False)
        self.assertIs(is_run(RESCANS, (HEAP, RUN[1] + (("drop", 0, 0),))), True)

    def test_visits_again_with_and_without_a_rescan(self):
        run = ((1, ((None,),), ((0,),)), (("visit", 0), ("visit", 0)))
        self.assertIs(is_run(EMPTY, run), False)
        self.assertIs(is_run((all_marks(), False), run), False)
        self.assertIs(is_run(RESCANS, run), True)

    def test_a_run_of_one_table_need_not_be_one_of_another(self):
        run = (HEAP, (("visit", 0), ("load", 0, 0, 0), ("scan", 1)))
        self.assertIs(is_run(EMPTY, run), False)
        self.assertIs(is_run(known_table("load"), run), True)

    def test_at_most_200_steps(self):
        for many in (0, 1, 199, 200):
            self.assertIs(is_run(EMPTY, looped(many)), True)
        for many in (201, 202, 400):
            self.assertIs(is_run(EMPTY, looped(many)), False)
        # The last of 200 steps is looked at, too.
        self.assertIs(is_run(EMPTY, (LOOP, looped(199)[1] + (("load", 0, 0, 1),))), False)
        self.assertIs(is_run(EMPTY, (LOOP, looped(199)[1] + (("visit", 0),))), True)

    def test_without_steps(self):
        for heap in all_heaps(1, 2, 1):
            self.assertIs(is_run(EMPTY, (heap, ())), True)
        self.assertIs(is_run(RESCANS, ((4, (), ((),) * 4), ())), True)

    def test_twelve_objects(self):
        heap = (1, ((None,),) * 11, ((),))
        self.assertIs(is_run(EMPTY, (heap, (("new", 0),))), True)
        self.assertIs(is_run(EMPTY, (heap, (("new", 0), ("new", 0)))), False)

    def test_the_heap_must_be_one(self):
        for heap in [(1, ((2,),), ((0,),)), (1, (), ()), (0, (), ((),)), (1, ((None,),) * 13, ((),)), start(HEAP)]:
            self.assertIs(is_run(EMPTY, (heap, ())), False)

    def test_any_value(self):
        for value in ANY + [HEAP, RUN[1], RUN + (None,), RUN[:1], (RUN[1], HEAP), (RUN,)]:
            before = copy.deepcopy(value)
            self.assertIs(is_run(EMPTY, value), False)
            self.assertTrue(same(before, value))

    def test_any_value_in_each_place(self):
        for value in ANY:
            self.assertIs(is_run(EMPTY, (value, ())), False)
            self.assertIs(is_run(EMPTY, (HEAP, value)), same(value, ()))
            self.assertIs(is_run(EMPTY, (HEAP, (value,))), False)
            self.assertIs(is_run(EMPTY, (HEAP, RUN[1] + (value,))), False)
            stored = (HEAP, (("store", 0, 0, 0, value),))
            self.assertIs(is_run(EMPTY, stored), value is None or same(value, 0))
            self.assertIs(is_run(EMPTY, RUN + (value,)), False)

    def test_lists_in_place_of_tuples(self):
        wrong = lists_for_tuples(RUN)
        self.assertEqual(len(wrong), 12)
        for value in wrong:
            self.assertIs(is_run(EMPTY, value), False)

    def test_booleans_in_place_of_integers(self):
        wrong = booleans_for_integers(RUN)
        self.assertGreater(len(wrong), 8)
        for value in wrong:
            self.assertIs(is_run(EMPTY, value), False)


class StatesOf(unittest.TestCase):
    def test_ordinary(self):
        expected = [start(HEAP)]
        for step in RUN[1]:
            expected.append(model_after(EMPTY, expected[-1], step))
        self.assertTrue(same(states_of(EMPTY, RUN), tuple(expected)))
        self.assertTrue(same(states_of(run=RUN, table=EMPTY), tuple(expected)))

    def test_without_steps(self):
        for heap in all_heaps(2, 1, 2):
            self.assertTrue(same(states_of(FULL, (heap, ())), (start(heap),)))

    def test_more_than_200_steps(self):
        for many in (200, 201, 500):
            states = states_of(EMPTY, looped(many))
            self.assertEqual(len(states), many + 1)
            self.assertEqual(states[0], start(LOOP))
            self.assertEqual(set(states[1:]), {(1, ((0,),), ("white",), ((0,),), (False,))})

    def test_the_table_matters(self):
        run = (HEAP, (("load", 0, 0, 0),))
        self.assertEqual(states_of(EMPTY, run)[1][2], ("white", "white"))
        self.assertEqual(states_of(known_table("load"), run)[1][2], ("white", "grey"))

    def test_long_runs(self):
        for seed in range(6):
            for table in (EMPTY, FULL, known_table("both")):
                run = thrown_run(table, thrown_heap(seed, seed % 4 + 1, 3 * seed % 12, seed % 4 + 1), seed)
                self.assertIs(is_run(table, run), True)
                states = states_of(table, run)
                self.assertEqual(len(states), len(run[1]) + 1)
                model = Model(states[0])
                for step, state in zip(run[1], states[1:]):
                    model.make(table, step)
                    self.assertTrue(same(model.state(), state))
                    self.assertIs(is_state(state), True)


class Walk(unittest.TestCase):
    def test_pairs_of_steps_and_the_states_behind_them(self):
        pairs = list(walk(EMPTY, RUN))
        self.assertTrue(same(pairs, list(zip(RUN[1], states_of(EMPTY, RUN)[1:]))))
        self.assertTrue(same(list(walk(run=RUN, table=EMPTY)), pairs))

    def test_is_a_generator(self):
        self.assertTrue(inspect.isgenerator(walk(EMPTY, RUN)))
        self.assertTrue(inspect.isgenerator(walk(EMPTY, (HEAP, ()))))

    def test_without_steps(self):
        self.assertEqual(list(walk(EMPTY, (HEAP, ()))), [])

    def test_more_than_200_steps(self):
        for many in (200, 201, 300):
            pairs = list(walk(EMPTY, looped(many)))
            self.assertEqual([step for step, _ in pairs], [("store", 0, 0, 0, 0)] * many)

    def test_left_behind_its_first_pair(self):
        before = copy.deepcopy(RUN)
        for step, state in walk(EMPTY, RUN):
            break
        self.assertTrue(same((step, state), (("visit", 0), states_of(EMPTY, RUN)[1])))
        self.assertTrue(same(before, RUN))
        self.assertEqual(len(list(walk(EMPTY, RUN))), 4)

    def test_makes_no_step_ahead_of_being_asked(self):
        # The second step is not possible, which shows only if it is made.
        held_back = walk(EMPTY, (HEAP, (("visit", 0), ("load", 0, 1, 0))))
        self.assertEqual(next(held_back)[0], ("visit", 0))
        held_back.close()

    def test_two_walks_at_once(self):
        one, other = walk(EMPTY, RUN), walk(EMPTY, RUN)
        first = next(one)
        self.assertEqual(list(other), [first] + list(one))


class ThreadSteps(unittest.TestCase):
    def test_each_word(self):
        for step in all_steps(2, 2, 2):
            for many in range(3):
                expected = many if step[0] in THREAD_WORDS else 0
                self.assertTrue(same(thread_steps((HEAP, (step,) * many)), expected))

    def test_runs(self):
        self.assertEqual(thread_steps(RUN), 2)
        self.assertEqual(thread_steps(run=RUN), 2)
        self.assertTrue(same(thread_steps((HEAP, ())), 0))
        self.assertEqual(thread_steps((HEAP, RUN[1] + (("drop", 0, 0), ("new", 0), ("visit", 0)))), 4)
        for many in (200, 201, 300):
            self.assertEqual(thread_steps(looped(many)), many)

    def test_runs_of_any_table(self):
        run = ((1, ((None,),), ((0,),)), (("visit", 0), ("visit", 0), ("new", 0), ("scan", 0)))
        self.assertIs(is_run(EMPTY, run), False)
        self.assertEqual(thread_steps(run), 1)


class Unchanged(unittest.TestCase):
    def test_tables_and_runs_are_as_before(self):
        table = known_table("value")
        runs = [RUN, looped(3), (HEAP, ()), (HEAP, (("visit", 0), ("load", 0, 1, 0)))]
        before = copy.deepcopy((table, runs))
        for run in runs:
            self.assertIs(is_run(table, run), is_run(table, run))
            self.assertEqual(thread_steps(run), thread_steps(run))
        for run in runs[:3]:
            self.assertTrue(same(states_of(table, run), states_of(table, run)))
            self.assertTrue(same(list(walk(table, run)), list(walk(table, run))))
        self.assertTrue(same(before, (table, runs)))


class WhatTheCollectorKeeps(unittest.TestCase):
    """Guarantee (g), along whole runs."""

    def check_unreachable(self, heap, states):
        kept = reachable(heap)
        far = [number for number in range(len(heap[1])) if number not in kept]
        for state in states:
            self.assertEqual({state[2][number] for number in far} - {"white"}, set())

    def test_unreachable_objects_stay_white_in_all_short_runs(self):
        for heap in itertools.islice(all_heaps(1, 3, 1), 0, None, 3):
            for table in (EMPTY, FULL):
                self.check_unreachable(heap, states_within(table, heap, 1, 4))
        for heap in itertools.islice(all_heaps(1, 2, 2), 0, None, 5):
            self.check_unreachable(heap, states_within(FULL, heap, 2, 3))

    def test_unreachable_objects_stay_white_in_all_runs_of_four_steps(self):
        heap = (1, ((None,), (0,), (1,)), ((0,), ()))
        for run in all_runs(FULL, heap, 4):
            self.check_unreachable(heap, states_of(FULL, run))

    def test_unreachable_objects_stay_white_in_long_runs(self):
        for seed in range(30):
            heap = thrown_heap(seed, seed % 2 + 1, 9, 2)
            # One thread that holds one object: most of the heap is unreachable.
            heap = (heap[0], heap[1], ((seed % 9,), ()))
            for table in SAFE + [EMPTY, RESCANS]:
                run = thrown_run(table, heap, seed)
                self.check_unreachable(heap, states_of(table, run))

    def test_safe_tables_lose_nothing(self):
        heaps = [(1, ((1,), (None,)), ((0,),)), (1, ((1,), (None,)), ((0,), (0,))), (1, ((1,), (0,)), ((0,), (1,)))]
        for heap in heaps:
            for table in SAFE:
                ended = [state for state in states_within(table, heap, 3, 3) if is_ended(table, state)]
                self.assertGreater(len(ended), 0)
                self.assertEqual([state for state in ended if lost(state)], [])

    def test_tables_that_are_not_safe_lose_something(self):
        # The fewest thread steps that the document tells: 1 without any marks, 2 for "old".
        # The second thread stores object 1 into a scanned object and drops it, ahead of its visit.
        hidden = (1, ((None,), (None,)), ((0,), (0, 1)))
        for table, fewest in [(EMPTY, 1), (known_table("old"), 2)]:
            for most in range(3):
                states = states_within(table, hidden, most, 3)
                broken = [state for state in states if is_ended(table, state) and lost(state)]
                self.assertEqual(bool(broken), most >= fewest, most)

    def test_long_runs_of_safe_tables_lose_nothing(self):
        ended = 0
        for seed in range(60):
            table = SAFE[seed % len(SAFE)]
            heap = thrown_heap(seed, seed % 2 + 1, seed % 5 + 1, seed % 3 + 1)
            for state in states_of(table, thrown_run(table, heap, seed)):
                if is_ended(table, state):
                    ended += 1
                    self.assertEqual(lost(state), ())
        self.assertGreater(ended, 10)


if __name__ == "__main__":
    unittest.main()
