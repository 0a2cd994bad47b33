"""The stories behind points [9] to [12]: each one breaks its property, whatever else a table has."""

import unittest

from shadebarriers.collector import steps_to_end
from shadebarriers.heaps import is_heap
from shadebarriers.marks import all_marks, is_mark
from shadebarriers.properties import PROPERTIES, first_break, has
from shadebarriers.runs import is_run, states_of, thread_steps
from shadebarriers.states import is_ended, lost, start
from shadebarriers.stories import OPENING, stories
from tests.model import Model
from tests.thrown import picks, thrown_heap, thrown_run, thrown_table
from tests.values import same

BOTH = (False, True)


def told():
    for word in PROPERTIES:
        for rescans in BOTH:
            for story in stories(word, rescans):
                yield word, rescans, story


def tables_without(lacks, rescans, seed):
    """Tables that have none of these marks: with all others, with no other, and with some."""
    source = picks(seed)
    free = [mark for mark in all_marks() if mark not in lacks]
    yield (tuple(free), rescans)
    yield ((), rescans)
    for share in (4, 8, 12):
        yield (tuple(mark for mark in free if next(source) % 16 < share), rescans)


def run_of(table, word, story):
    _, heap, steps = story
    run = (heap, OPENING + steps)
    if word == "safe":
        run = (heap, run[1] + steps_to_end(table, states_of(table, run)[-1]))
    return run


class Stories(unittest.TestCase):
    def test_each_breaks_its_property_whatever_else_a_table_has(self):
        for seed, (word, rescans, story) in enumerate(told()):
            for table in tables_without(story[0], rescans, seed):
                run = run_of(table, word, story)
                self.assertIs(is_run(table, run), True, (word, table, story))
                self.assertEqual(thread_steps(run), len(story[2]))
                self.assertFalse(has(table, states_of(table, run)[-1], word), (word, table, story))
                self.assertIsNotNone(first_break(table, run, word))

    def test_limits(self):
        for word, rescans, (lacks, heap, steps) in told():
            self.assertIs(is_heap(heap), True)
            made = len([step for step in steps if step[0] == "new"])
            self.assertLessEqual(len(heap[1]) + made, 5)
            self.assertLessEqual(heap[0], 2)
            self.assertLessEqual(len(heap[2]), 2)
            self.assertLessEqual(len(steps), 5)

    def test_lacks_are_ascending_marks(self):
        for word, rescans, (lacks, heap, steps) in told():
            self.assertTrue(lacks)
            self.assertTrue(all(is_mark(mark) for mark in lacks))
            self.assertEqual(lacks, tuple(sorted(set(lacks))))

    def test_only_safe_depends_on_a_rescan(self):
        for word in PROPERTIES:
            self.assertEqual(stories(word, False) == stories(word, True), word != "safe")

    def test_none_is_longer_than_another_one_that_needs_no_more(self):
        for word in PROPERTIES:
            for rescans in BOTH:
                all_told = stories(word, rescans)
                for lacks, _, steps in all_told:
                    for others, _, other_steps in all_told:
                        if set(others) < set(lacks):
                            self.assertGreater(len(other_steps), len(steps))

    def test_told_once(self):
        for word in PROPERTIES:
            for rescans in BOTH:
                lacks = [story[0] for story in stories(word, rescans)]
                self.assertEqual(len(lacks), len(set(lacks)))


class StepsToEnd(unittest.TestCase):
    def expected(self, table, state):
        """The collector's steps, as point [13] lists them, by the model."""
        model = Model(state)
        steps = []
        while not model.is_ended(table):
            grey = [number for number in sorted(model.colour) if model.colour[number] == "grey"]
            waiting = [
                thread for thread in sorted(model.held)
                if not model.scanned[thread]
                or table[1] and any(model.is_white(number) for number in model.held[thread])
            ]
            steps.append(("scan", grey[0]) if grey else ("visit", waiting[0]))
            model.make(table, steps[-1])
        return tuple(steps)

    def test_from_states_of_long_runs(self):
        for seed in range(12):
            table = thrown_table(seed)
            run = thrown_run(table, thrown_heap(seed, seed % 3 + 1, seed % 7, seed % 4 + 1), seed, 30)
            for state in states_of(table, run)[::5]:
                steps = steps_to_end(table, state)
                self.assertTrue(same(steps, self.expected(table, state)))

    def test_an_ended_state(self):
        self.assertEqual(steps_to_end(((), False), (1, ((None,),), ("white",), ((0,),), (True,))), ())
        self.assertEqual(steps_to_end(((), True), (1, ((None,),), ("black",), ((0,),), (True,))), ())

    def test_alone_the_collector_loses_nothing(self):
        for seed in range(12):
            table = (thrown_table(seed)[0], seed % 2 == 1)
            heap = thrown_heap(seed, seed % 3 + 1, seed, seed % 4 + 1)
            steps = steps_to_end(table, start(heap))
            end = states_of(table, (heap, steps))[-1]
            self.assertTrue(is_ended(table, end))
            self.assertEqual(lost(end), ())


if __name__ == "__main__":
    unittest.main()
