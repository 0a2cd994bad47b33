"""Point [3]: the guarantees (a) to (h), over the whole program, for drawn tables and heaps."""

import unittest

from shadebarriers.counting import count_least, count_within
from shadebarriers.desk import Desk
from shadebarriers.heaps import reachable
from shadebarriers.judging import breaking_run, fewest_steps, holds, properties_of, shows_break
from shadebarriers.machine import Machine
from shadebarriers.marks import all_marks, is_within, joined
from shadebarriers.needless import least, needless
from shadebarriers.prices import cheapest
from shadebarriers.properties import PROPERTIES, first_break
from shadebarriers.runs import states_of, thread_steps
from shadebarriers.states import is_ended
from shadebarriers.texts import format_heap, format_steps, format_table, parse_heap, parse_steps, parse_table
from tests.formula import holds_by_formula
from tests.thrown import near_tables, picks, thrown_heap, thrown_run, thrown_table
from tests.values import same


def drawn_tables():
    found = [thrown_table(seed, share) for seed in range(4) for share in (2, 8, 13, 15)]
    return found + [table for word in PROPERTIES for table in near_tables(word, 21)]


def drawn_runs(table, many=4):
    """Runs of a table, ended if 60 steps of threads and the collector's last ones bring them there."""
    for seed in range(many):
        heap = thrown_heap(seed + 31 * len(table[0]), seed % 2 + 1, seed % 3 + 3, seed % 2 + 1)
        machine = Machine.replayed(table, thrown_run(table, heap, seed + 1, 60))
        machine.collect()
        yield heap, machine.steps()


class Guarantees(unittest.TestCase):
    def test_a_for_all_heaps(self):
        broken = 0
        for table in drawn_tables():
            for run in drawn_runs(table, 8):
                for word in PROPERTIES:
                    index = first_break(table, run, word)
                    if index is not None:
                        broken += 1
                        self.assertIs(holds(table, word), False, (table, word, run))
        self.assertGreater(broken, 60)

    def test_a_exactly(self):
        for table in drawn_tables():
            for word in PROPERTIES:
                self.assertIs(holds(table, word), holds_by_formula(table, word))
                run = breaking_run(table, word)
                self.assertIs(run is None, holds(table, word))
                self.assertTrue(run is None or first_break(table, run, word) is not None)

    def test_b_short_runs(self):
        for table in drawn_tables():
            for word in PROPERTIES:
                run = breaking_run(table, word)
                if run is not None:
                    (width, slots, held), steps = run
                    self.assertLessEqual(len(slots) + len([step for step in steps if step[0] == "new"]), 5)
                    self.assertLessEqual(width, 2)
                    self.assertLessEqual(len(held), 2)
                    self.assertLessEqual(thread_steps(run), 5)
                    self.assertEqual(thread_steps(run), fewest_steps(table, word))
                for other in drawn_runs(table, 2):
                    if shows_break(table, word, other):
                        self.assertLessEqual(thread_steps(run), thread_steps(other))

    def test_c_more_marks_never_hurt(self):
        tables = drawn_tables()
        for one, other in zip(tables, tables[1:]):
            larger = joined(one, other)
            self.assertTrue(is_within(one, larger) and is_within(other, larger))
            self.assertLessEqual({*properties_of(one), *properties_of(other)}, set(properties_of(larger)))

    def test_d_least_tables(self):
        for table in drawn_tables():
            for word in properties_of(table):
                marks, rescans = least(table, word)
                self.assertIs(holds((marks, rescans), word), True)
                self.assertEqual(needless((marks, rescans), word), ())
                for mark in marks:
                    fewer = tuple(other for other in marks if other != mark)
                    self.assertIs(holds((fewer, rescans), word), False)

    def test_e_cheapest(self):
        for seed, table in enumerate(drawn_tables()):
            source = picks(seed)
            prices = (tuple((mark, next(source) % 20) for mark in all_marks()), next(source) % 30)
            for word in PROPERTIES:
                total, larger = cheapest(table, prices, word)
                self.assertIs(holds(larger, word), True)
                if holds(table, word):
                    self.assertEqual(total, 0)
                # What a least table that lies within any other one adds is no cheaper.
                for turn in range(3):
                    order = sorted(all_marks(), key=lambda mark: next(source))
                    marks = set(all_marks())
                    for mark in order:
                        if mark not in table[0] and holds((tuple(sorted(marks - {mark})), table[1]), word):
                            marks.remove(mark)
                    price = sum(cost for mark, cost in prices[0] if mark in marks and mark not in table[0])
                    self.assertLessEqual(total, price)

    def test_f_counted(self):
        for word in PROPERTIES:
            for rescans in (False, True):
                # A table that holds and has few marks is one of those counted with all its additions.
                table = least((all_marks(), rescans), word)
                self.assertEqual(count_within(table, word), 2 ** (120 - len(table[0])))
                self.assertGreater(count_within(((), rescans), word), count_within(table, word))
                self.assertGreater(count_least(word, rescans), 1)

    def test_g_unreachable_objects_stay_white(self):
        for table in drawn_tables():
            for heap, steps in drawn_runs(table):
                outside = [number for number in range(len(heap[1])) if number not in reachable(heap)]
                for _, _, colours, _, _ in states_of(table, (heap, steps)):
                    self.assertTrue(all(colours[number] == "white" for number in outside))

    def test_g_a_safe_table_loses_nothing(self):
        ended = 0
        for table in drawn_tables():
            if holds(table, "safe"):
                for heap, steps in drawn_runs(table, 8):
                    width, slots, colours, held, _ = state = states_of(table, (heap, steps))[-1]
                    if is_ended(table, state):
                        ended += 1
                        self.assertTrue(all(colours[number] != "white" for number in reachable((width, slots, held))))
        self.assertGreater(ended, 50)

    def test_h_machines(self):
        for table in drawn_tables()[::3]:
            for heap, steps in drawn_runs(table, 2):
                machine = Machine(table, heap)
                states = states_of(table, (heap, steps))
                for step, state in zip(steps, states[1:]):
                    machine.do(step)
                    self.assertTrue(same(machine.state(), state))
                for word in PROPERTIES:
                    self.assertTrue(same(machine.first_break(word), first_break(table, (heap, steps), word)))
                for step, state in zip(reversed(steps), reversed(states[:-1])):
                    self.assertTrue(same(machine.undo(), step))
                    self.assertTrue(same(machine.state(), state))

    def test_h_texts(self):
        for table in drawn_tables():
            self.assertTrue(same(parse_table(format_table(table)), table))
            for heap, steps in drawn_runs(table, 2):
                self.assertTrue(same(parse_heap(format_heap(heap)), heap))
                self.assertTrue(same(parse_steps(format_steps(steps)), steps))

    def test_h_desks(self):
        for table in drawn_tables()[::3]:
            desk = Desk()
            for row in format_table(table).split("\n"):
                desk.say(row if row.startswith("rescan") else "mark " + row)
            for word in PROPERTIES:
                self.assertEqual(desk.say("holds " + word), "yes" if holds(table, word) else "no")
            for heap, steps in drawn_runs(table, 2):
                desk.say("heap " + format_heap(heap).replace("\n", " / "))
                for step in steps:
                    desk.say("do " + format_steps((step,)))
                machine = Machine.replayed(table, (heap, steps))
                self.assertEqual(desk.say("lost"), " ".join(map(str, machine.lost())) or "none")
                self.assertEqual(desk.say("ended"), "yes" if machine.is_ended() else "no")


if __name__ == "__main__":
    unittest.main()
