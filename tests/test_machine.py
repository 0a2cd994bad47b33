"""Points [13] and [3](h): machines."""

import copy
import unittest

from shadebarriers import errors
from shadebarriers.collector import steps_to_end
from shadebarriers.heaps import is_heap
from shadebarriers.judging import breaking_run
from shadebarriers.machine import Machine
from shadebarriers.marks import all_marks, is_table, known_table
from shadebarriers.properties import PROPERTIES, first_break
from shadebarriers.runs import states_of
from shadebarriers.states import is_ended, lost, start
from shadebarriers.steps import after, possible
from tests.model import Model, all_steps
from tests.thrown import picks, thrown_heap, thrown_run, thrown_table
from tests.values import ANY, booleans_for_integers, integers_for_booleans, lists_for_tuples, same

EMPTY = ((), False)
RESCANS = ((), True)
HEAP = (1, ((1,), (None,)), ((0,),))
RUN = (HEAP, (("visit", 0), ("load", 0, 0, 0), ("store", 0, 0, 0, None), ("scan", 0)))
LOOP = (1, ((None,),), ((0,),))


def everything(machine):
    """All that a machine answers, but for what changes it."""
    breaks = [machine.first_break(word) for word in PROPERTIES]
    return (
        machine.table, machine.heap, machine.state(), machine.steps(), len(machine), machine.is_ended(),
        machine.lost(), machine.possible(), breaks,
    )


def expected(table, run):
    """What a machine that made a run should answer."""
    heap, steps = run
    states = states_of(table, run)
    breaks = [first_break(table, run, word) for word in PROPERTIES]
    return (
        table, heap, states[-1], steps, len(steps), is_ended(table, states[-1]), lost(states[-1]),
        possible(table, states[-1]), breaks,
    )


def thrown(seed, most=60, share=None):
    """A table and a run of it."""
    table = thrown_table(seed, share)
    return table, thrown_run(table, thrown_heap(seed, seed % 3 + 1, seed % 8, seed % 4 + 1), seed, most)


class Making(unittest.TestCase):
    def test_ordinary(self):
        machine = Machine(EMPTY, HEAP)
        self.assertTrue(same(everything(machine), expected(EMPTY, (HEAP, ()))))
        self.assertEqual(Machine(heap=HEAP, table=EMPTY), machine)

    def test_drawn(self):
        for seed in range(20):
            table, (heap, _) = thrown(seed)
            machine = Machine(table, heap)
            self.assertTrue(same(everything(machine), expected(table, (heap, ()))))

    def test_any_table_and_any_heap(self):
        for value in ANY + [known_table("old")[0], (known_table("old")[0][::-1], True), HEAP]:
            for other in ANY + [HEAP, EMPTY]:
                before = copy.deepcopy((value, other))
                for table, heap in [(value, other), (EMPTY, other), (value, HEAP)]:
                    if is_table(table) and is_heap(heap):
                        continue
                    name = "BadHeap" if is_table(table) else "BadTable"
                    with self.assertRaises(getattr(errors, name)) as caught:
                        Machine(table, heap)
                    self.assertIs(caught.exception.value, heap if is_table(table) else table)
                self.assertTrue(same(before, (value, other)))

    def test_lists_booleans_and_integers(self):
        table = (known_table("load")[0][:2], True)
        for value in lists_for_tuples(table) + integers_for_booleans(table):
            with self.assertRaises(errors.BadTable) as caught:
                Machine(table=value, heap=None)
            self.assertIs(caught.exception.value, value)
        for value in lists_for_tuples(HEAP) + booleans_for_integers(HEAP):
            with self.assertRaises(errors.BadHeap) as caught:
                Machine(table=table, heap=value)
            self.assertIs(caught.exception.value, value)

    def test_table_and_heap_cannot_be_set(self):
        machine = Machine(EMPTY, HEAP)
        for name in ("table", "heap"):
            with self.assertRaises(AttributeError):
                setattr(machine, name, getattr(machine, name))
            with self.assertRaises(AttributeError):
                delattr(machine, name)
        self.assertTrue(same(everything(machine), expected(EMPTY, (HEAP, ()))))


class Doing(unittest.TestCase):
    def test_every_step_against_after(self):
        for seed in range(12):
            table, run = thrown(seed, 40)
            machine = Machine(table, run[0])
            state = start(run[0])
            for many, step in enumerate(run[1]):
                state = after(table, state, step)
                self.assertIsNone(machine.do(step) if many % 2 else machine.do(step=step))
                self.assertTrue(same(machine.state(), state))
                self.assertTrue(same(machine.steps(), run[1][:many + 1]))
                self.assertEqual(len(machine), many + 1)
                self.assertIs(machine.is_ended(), is_ended(table, state))
                self.assertTrue(same(machine.lost(), lost(state)))
                self.assertTrue(same(machine.possible(), possible(table, state)))

    def test_every_error_of_after_changes_nothing(self):
        found = set()
        full = (1, ((None,),) * 12, ((0,), ()))
        for seed, heap in enumerate([HEAP, full, LOOP, thrown_heap(3, 1, 3, 2), thrown_heap(4, 1, 3, 2)]):
            for table in (EMPTY, RESCANS, thrown_table(seed)):
                machine = Machine(table, heap)
                for step in ("visit", 0), ("scan", 0), ("visit", 0), ("visit", 1):
                    if step in machine.possible():
                        machine.do(step)
                    found |= self.try_all(machine)
        names = {
            "BadStep", "Ended", "NoThread", "NoObject", "NotHeld", "NoSlot", "EmptySlot", "Full", "Visited", "NotGrey",
        }
        self.assertEqual(found, names)

    def try_all(self, machine):
        found = set()
        before = everything(machine)
        for step in all_steps(3, 4, 2) + ANY + [["visit", 0], ("visit", True), ("collect",), ("visit", -1)]:
            try:
                after(machine.table, machine.state(), step)
            except errors.ShadeError as error:
                with self.assertRaises(type(error)) as caught:
                    machine.do(step)
                self.assertTrue(same(vars(caught.exception), vars(error)))
                found.add(type(error).__name__)
        self.assertTrue(same(everything(machine), before))
        return found

    def test_many_hundred_steps(self):
        machine = Machine(EMPTY, LOOP)
        for many in range(700):
            machine.do(("store", 0, 0, 0, 0 if many % 2 == 0 else None))
        self.assertEqual(len(machine), 700)
        self.assertEqual(len(machine.steps()), 700)
        self.assertEqual(machine.first_break("clean"), None)
        self.assertEqual(machine.state(), start(LOOP))
        machine.do(("visit", 0))
        machine.do(("new", 0))
        self.assertTrue(same(machine.first_break("clean"), 702))
        for many in range(702, 0, -1):
            self.assertEqual(len(machine), many)
            machine.undo()
        self.assertEqual(machine, Machine(EMPTY, LOOP))


class Undoing(unittest.TestCase):
    def test_down_to_the_start(self):
        for seed in range(12):
            table, (heap, steps) = thrown(seed, 40)
            machine = Machine(table, heap)
            seen = [everything(machine)]
            for step in steps:
                machine.do(step)
                seen.append(everything(machine))
            for step, before in zip(reversed(steps), reversed(seen[:-1])):
                self.assertTrue(same(machine.undo(), step))
                self.assertTrue(same(everything(machine), before))
            self.check_nothing(machine)

    def check_nothing(self, machine):
        before = everything(machine)
        for _ in range(2):
            with self.assertRaises(errors.NothingToUndo) as caught:
                machine.undo()
            self.assertEqual(vars(caught.exception), {})
            self.assertTrue(same(everything(machine), before))

    def test_nothing_to_undo(self):
        self.check_nothing(Machine(EMPTY, HEAP))
        machine = Machine(EMPTY, HEAP)
        machine.do(("visit", 0))
        machine.undo()
        self.check_nothing(machine)

    def test_forth_and_back(self):
        source = picks(5)
        machine = Machine(known_table("both"), thrown_heap(6, 2, 5, 2))
        steps = []
        for _ in range(200):
            choice = machine.possible()
            if steps and (not choice or next(source) % 3 == 0):
                self.assertEqual(machine.undo(), steps.pop())
            else:
                steps.append(choice[next(source) % len(choice)])
                machine.do(steps[-1])
            self.assertTrue(same(machine.steps(), tuple(steps)))
        self.assertTrue(same(everything(machine), expected(machine.table, (machine.heap, tuple(steps)))))


class Collecting(unittest.TestCase):
    def next_step(self, table, state):
        """The collector's next step as the document lists it, by the model."""
        model = Model(state)
        for number in sorted(model.colour):
            if model.colour[number] == "grey":
                return ("scan", number)
        for thread in sorted(model.held):
            white = any(model.is_white(number) for number in model.held[thread])
            if not model.scanned[thread] or (table[1] and white):
                return ("visit", thread)
        return None

    def test_step_by_step(self):
        again = 0
        for seed in range(60):
            table = (thrown_table(seed, 2)[0], seed % 3 > 0)
            heap = thrown_heap(seed, seed % 3 + 1, seed % 5, seed % 4 + 1)
            machine = Machine.replayed(table, thrown_run(table, heap, seed, seed))
            before = everything(machine)
            made = len(machine)
            many = machine.collect()
            self.assertEqual(len(machine), made + many)
            state = before[2]
            for step in machine.steps()[made:]:
                self.assertTrue(same(step, self.next_step(machine.table, state)))
                again += step[0] == "visit" and state[4][step[1]]
                state = after(machine.table, state, step)
            self.assertTrue(same(machine.state(), state))
            self.assertIsNone(self.next_step(machine.table, state))
            self.assertIs(machine.is_ended(), True)
            for _ in range(many):
                machine.undo()
            self.assertTrue(same(everything(machine), before))
        self.assertGreater(again, 2)

    def test_in_an_ended_state(self):
        machine = Machine.replayed(EMPTY, RUN)
        self.assertIs(machine.is_ended(), True)
        before = everything(machine)
        self.assertTrue(same(machine.collect(), 0))
        self.assertTrue(same(everything(machine), before))

    def test_the_least_grey_object_and_the_first_thread(self):
        heap = (1, ((1,), (None,), (0,), (None,)), ((2,), (), (1, 3)))
        machine = Machine(EMPTY, heap)
        machine.do(("visit", 2))
        self.assertEqual(machine.collect(), 6)
        self.assertEqual(machine.steps(), (
            ("visit", 2), ("scan", 1), ("scan", 3), ("visit", 0), ("scan", 2), ("scan", 0), ("visit", 1),
        ))

    def test_threads_that_hold_white_objects_only_with_a_rescan(self):
        heap = (1, ((1,), (None,)), ((0,), ()))
        steps = (("visit", 0), ("load", 0, 0, 0), ("store", 0, 0, 0, None))
        for table, expected_steps in [
            (EMPTY, (("scan", 0), ("visit", 1))), (RESCANS, (("scan", 0), ("visit", 0), ("scan", 1), ("visit", 1))),
        ]:
            machine = Machine.replayed(table, (heap, steps))
            self.assertEqual(machine.collect(), len(expected_steps))
            self.assertEqual(machine.steps()[3:], expected_steps)

    def test_without_objects(self):
        machine = Machine(RESCANS, (4, (), ((), (), (), ())))
        self.assertEqual(machine.collect(), 4)
        self.assertEqual(machine.steps(), tuple(("visit", thread) for thread in range(4)))

    def test_as_the_collector_alone(self):
        for seed in range(8):
            table, run = thrown(seed, 10)
            machine = Machine.replayed(table, run)
            steps = steps_to_end(table, machine.state())
            machine.collect()
            self.assertEqual(machine.steps(), run[1] + steps)


class Twins(unittest.TestCase):
    def test_independent_with_the_same_steps_to_take_back(self):
        for seed in range(12):
            table, run = thrown(seed, 20)
            machine = Machine.replayed(table, run)
            twin = machine.twin()
            self.assertIsInstance(twin, Machine)
            self.assertIsNot(twin, machine)
            self.assertEqual(twin, machine)
            self.assertTrue(same(everything(twin), everything(machine)))
            before = everything(machine)
            while len(twin):
                twin.undo()
            self.assertTrue(same(everything(machine), before))
            kept = everything(twin)
            machine.collect()
            self.assertTrue(same(everything(twin), kept))
            twin.collect()
            for step in reversed(machine.steps()):
                self.assertEqual(machine.undo(), step)
            self.assertGreater(len(twin), 0)

    def test_twin_of_a_new_machine(self):
        machine = Machine(EMPTY, HEAP)
        twin = machine.twin()
        machine.do(("visit", 0))
        self.assertEqual(len(twin), 0)
        with self.assertRaises(errors.NothingToUndo):
            twin.undo()
        self.assertNotEqual(twin, machine)


class Equality(unittest.TestCase):
    def check(self, one, other, is_equal):
        self.assertIs(one == other, is_equal)
        self.assertIs(other == one, is_equal)
        self.assertIs(one != other, not is_equal)

    def test_machines(self):
        machine = Machine.replayed(EMPTY, RUN)
        self.check(machine, Machine.replayed(EMPTY, RUN), True)
        self.check(machine, machine, True)
        self.check(machine, Machine.replayed(EMPTY, (HEAP, RUN[1][:3])), False)
        self.check(machine, Machine(EMPTY, HEAP), False)
        self.check(Machine(EMPTY, HEAP), Machine(RESCANS, HEAP), False)
        self.check(Machine(EMPTY, HEAP), Machine(known_table("old"), HEAP), False)
        self.check(Machine(EMPTY, HEAP), Machine(EMPTY, LOOP), False)

    def test_the_steps_count_not_the_states(self):
        heap = (1, ((None,), (None,)), ((0, 1),))
        one, other = Machine(EMPTY, heap), Machine(EMPTY, heap)
        for number in (0, 1):
            one.do(("drop", 0, number))
            other.do(("drop", 0, 1 - number))
        self.assertEqual(one.state(), other.state())
        self.check(one, other, False)

    def test_steps_taken_back_do_not_count(self):
        machine = Machine(EMPTY, HEAP)
        machine.collect()
        while len(machine):
            machine.undo()
        self.check(machine, Machine(EMPTY, HEAP), True)

    def test_anything_else(self):
        machine = Machine(EMPTY, HEAP)
        for value in ANY + [EMPTY, HEAP, (EMPTY, HEAP), (EMPTY, HEAP, ()), Machine, machine.state(), object()]:
            self.check(machine, value, False)


class Replayed(unittest.TestCase):
    def test_as_a_run_of_its_steps(self):
        for seed in range(16):
            table, run = thrown(seed)
            machine = Machine.replayed(table, run)
            self.assertIsInstance(machine, Machine)
            self.assertTrue(same(everything(machine), expected(table, run)))
            self.assertEqual(Machine.replayed(run=run, table=table), machine)

    def test_breaking_runs(self):
        for seed in range(12):
            table = thrown_table(seed)
            for word in PROPERTIES:
                run = breaking_run(table, word)
                if run is not None:
                    machine = Machine.replayed(table, run)
                    self.assertTrue(same(machine.first_break(word), first_break(table, run, word)))
                    self.assertIsNotNone(machine.first_break(word))

    def test_many_steps(self):
        run = (LOOP, (("store", 0, 0, 0, 0),) * 300)
        self.assertEqual(len(Machine.replayed(EMPTY, run)), 300)


class FirstBreak(unittest.TestCase):
    def test_as_the_function(self):
        broken = 0
        for seed in range(16):
            table, run = thrown(seed, 25, 2)
            machine = Machine(table, run[0])
            for many, step in enumerate(run[1]):
                machine.do(step)
                for word in PROPERTIES:
                    index = first_break(table, (run[0], run[1][:many + 1]), word)
                    self.assertTrue(same(machine.first_break(word), index))
                    self.assertTrue(same(machine.first_break(word=word), index))
                    broken += index is not None
        self.assertGreater(broken, 60)

    def test_taken_back(self):
        machine = Machine.replayed(EMPTY, RUN)
        self.assertEqual(machine.first_break("safe"), 4)
        self.assertEqual(machine.undo(), ("scan", 0))
        self.assertIsNone(machine.first_break("safe"))
        self.assertEqual(machine.first_break("covered"), 3)

    def test_words_of_any_kind(self):
        machine = Machine.replayed(EMPTY, RUN)
        before = everything(machine)
        for value in ANY + ["Safe", "safe ", "", ("safe",), ["safe"], {"safe": 1}, PROPERTIES]:
            with self.assertRaises(errors.BadProperty) as caught:
                machine.first_break(value)
            self.assertIs(caught.exception.word, value)
            with self.assertRaises(errors.BadProperty):
                machine.first_break(word=value)
        self.assertTrue(same(everything(machine), before))


class Unchanged(unittest.TestCase):
    def test_what_was_passed_and_what_was_returned(self):
        table, run = thrown(9)
        table = (all_marks()[::3], table[1])
        run = thrown_run(table, run[0], 9, 30)
        before = copy.deepcopy((table, run))
        machine = Machine.replayed(table, run)
        answers = everything(machine)
        kept = copy.deepcopy(answers)
        machine.collect()
        machine.twin().undo()
        self.assertTrue(same(answers, kept))
        self.assertTrue(same(before, (table, run)))


if __name__ == "__main__":
    unittest.main()
