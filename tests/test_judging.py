"""Points [9] and [3](a) to (c): which properties hold, and runs that break the others."""

import copy
import itertools
import unittest

from shadebarriers.errors import BadProperty
from shadebarriers.heaps import is_heap
from shadebarriers.judging import breaking_run, fewest_steps, holds, properties_of, shows_break
from shadebarriers.marks import all_marks, is_within, joined, known_table
from shadebarriers.properties import PROPERTIES, first_break
from shadebarriers.runs import is_run, thread_steps
from shadebarriers.stories import stories
from tests.game import least_break
from tests.model import all_heaps
from tests.search import least_breaks
from tests.thrown import near_tables, picks, thrown_heap, thrown_run, thrown_table
from tests.values import ANY, booleans_for_integers, lists_for_tuples, same

BOTH = (False, True)
EMPTY = ((), False)
RESCANS = ((), True)
KNOWN = ("value", "holder", "old", "both", "load")
MAKING = ("new", "scanned")
LOADING = ("load", "scanned", "grey")
NO_WORDS = [
    "Safe", "safe ", " safe", "", "value", "old", "both", "safe\n", ("safe",), ["safe"], {"safe": "safe"}, PROPERTIES,
]
HEAP = (1, ((1,), (None,)), ((0,),))
RUN = (HEAP, (("visit", 0), ("load", 0, 0, 0), ("store", 0, 0, 0, None), ("scan", 0)))


def without(table, *marks):
    return (tuple(mark for mark in table[0] if mark not in marks), table[1])


def stores(state, holder, olds, news, who):
    return [("store", state, holder, old, new, who) for old in olds for new in news]


def drawn_tables(many):
    return [thrown_table(seed) for seed in range(many)]


def tables_near(many):
    return [(word, table) for word in PROPERTIES for seed in range(many) for table in near_tables(word, seed)]


class Holds(unittest.TestCase):
    def test_without_marks_nothing_holds(self):
        for table in (EMPTY, RESCANS):
            for word in PROPERTIES:
                self.assertIs(holds(table, word), False)
            self.assertEqual(properties_of(table), ())

    def test_with_all_marks_everything_holds(self):
        for rescans in BOTH:
            for word in PROPERTIES:
                self.assertIs(holds((all_marks(), rescans), word), True)
            self.assertTrue(same(properties_of((all_marks(), rescans)), PROPERTIES))

    def test_all_marks_but_one(self):
        for rescans in BOTH:
            for mark in all_marks():
                expected = PROPERTIES
                if mark == MAKING:
                    expected = ("safe", "strong", "weak") if rescans else ("strong", "weak")
                if mark == LOADING:
                    expected = ("covered", "direct", "safe", "strong", "weak")
                self.assertTrue(same(properties_of(without((all_marks(), rescans), mark)), expected), mark)

    def test_known_tables(self):
        expected = {
            "value": ("safe", "strong", "weak"), "holder": ("safe", "strong", "weak"), "old": (),
            "both": ("covered", "safe", "weak"), "load": PROPERTIES,
        }
        for word in KNOWN:
            self.assertTrue(same(properties_of(known_table(word)), expected[word]), word)
            for name in PROPERTIES:
                # The game needs no more objects than these to break one of them.
                found = least_break(known_table(word), name, 3, 1, 5)
                self.assertIs(found is None, name in expected[word], (word, name))

    def test_known_tables_that_rescan_or_not(self):
        for word, rescans, expected in [
            ("value", False, ("strong", "weak")), ("holder", False, ("strong", "weak")), ("old", True, ()),
            ("both", True, ("covered", "safe", "weak")), ("load", True, PROPERTIES),
        ]:
            self.assertTrue(same(properties_of((known_table(word)[0], rescans)), expected), word)

    def test_known_tables_joined(self):
        for one, other, expected in [
            ("old", "value", ("covered", "safe", "strong", "weak")),
            ("old", "holder", ("covered", "safe", "strong", "weak")),
            ("value", "holder", ("safe", "strong", "weak")), ("old", "load", PROPERTIES),
        ]:
            table = joined(known_table(one), known_table(other))
            self.assertTrue(same(properties_of(table), expected), (one, other))

    def test_what_matters_for_each_property(self):
        """Thread states and colours that matter for some properties only."""
        late = [mark for who in ("holder", "new")
                for mark in stores("unscanned", "black", ("black", "grey", "none"), ("white",), who)]
        seen = [mark for who in ("holder", "new")
                for mark in stores("scanned", "black", ("black", "grey", "none"), ("white",), who)]
        swap = [("store", "unscanned", "black", "white", "white", who) for who in ("holder", "new")]
        words = ("black", "grey", "none", "white")
        cuts = {
            colour: [mark for state in ("scanned", "unscanned")
                     for mark in stores(state, colour, ("white",), words, "old")]
            for colour in ("grey", "white")
        }
        from_black, from_white = ("load", "scanned", "black"), ("load", "scanned", "white")
        loads = [from_white, *cuts["grey"]]
        expected = {
            "clean": [MAKING, LOADING, from_black, *late],
            "strong": [MAKING, LOADING, *late, *seen],
            "direct": [MAKING, LOADING, *loads, from_black, *late, *seen, *swap],
            "covered": [MAKING, LOADING, *loads, *cuts["white"], from_black, *late, *seen, *swap],
            "weak": [MAKING, LOADING, *loads, *cuts["white"], *late, *seen, *swap],
            "safe": [MAKING, LOADING, *loads, *cuts["white"], *late, *seen, *swap],
        }
        for word in PROPERTIES:
            for rescans in BOTH:
                marks = {mark for lacks, _, _ in stories(word, rescans) for mark in lacks}
                self.assertEqual(marks, set(expected[word]), word)
                # A table that has all of these, and no other mark, is as good as one with all marks.
                self.assertIs(holds((tuple(sorted(marks)), rescans), word), True)
                rest = tuple(mark for mark in all_marks() if mark not in marks)
                self.assertIs(holds((rest, rescans), word), False)

    def test_each_mark_that_matters_can_make_the_difference(self):
        for word in PROPERTIES:
            for lacks, _, _ in stories(word, True):
                table = without((all_marks(), True), *lacks)
                self.assertIs(holds(table, word), False)
                for mark in lacks:
                    self.assertIs(holds(joined(table, ((mark,), False)), word), True)

    def test_a_rescan_matters_for_safe_alone(self):
        for marks, _ in drawn_tables(40) + [table for _, table in tables_near(2)]:
            for word in PROPERTIES:
                if word != "safe":
                    self.assertIs(holds((marks, True), word), holds((marks, False), word))
                    self.assertEqual(fewest_steps((marks, True), word), fewest_steps((marks, False), word))
            self.assertIs(holds((marks, True), "safe"), holds((marks, True), "weak"))
            both = holds((marks, False), "weak") and holds((marks, False), "covered")
            self.assertIs(holds((marks, False), "safe"), both)

    def test_properties_that_bring_others(self):
        for table in drawn_tables(40) + [table for _, table in tables_near(2)]:
            had = properties_of(table)
            self.assertTrue("strong" not in had or "weak" in had)
            self.assertTrue("clean" not in had or "direct" in had)
            self.assertTrue("direct" not in had or "covered" in had)

    def test_more_marks_never_hurt(self):
        tables = [known_table(word) for word in KNOWN] + drawn_tables(12)
        tables += [table for _, table in tables_near(1)]
        for one, other in itertools.product(tables, repeat=2):
            larger = joined(one, other)
            self.assertTrue(is_within(one, larger))
            self.assertLessEqual(set(properties_of(one)), set(properties_of(larger)))

    def test_more_marks_never_make_shorter_runs(self):
        for word, table in tables_near(2):
            source = picks(len(table[0]))
            more = joined(table, (tuple(mark for mark in all_marks() if next(source) % 3 == 0), False))
            fewest, most = fewest_steps(table, word), fewest_steps(more, word)
            self.assertTrue(most is None or (fewest is not None and fewest <= most))

    def test_arguments_by_name(self):
        for table in drawn_tables(5):
            self.assertTrue(same(properties_of(table=table), properties_of(table)))
            for word in PROPERTIES:
                self.assertIs(holds(word=word, table=table), holds(table, word))
                self.assertEqual(fewest_steps(word=word, table=table), fewest_steps(table, word))
                run = breaking_run(table, word)
                self.assertTrue(same(breaking_run(word=word, table=table), run))
                self.assertIs(shows_break(value=run, word=word, table=table), shows_break(table, word, run))

    def test_properties_of_is_ascending(self):
        for table in drawn_tables(40):
            expected = tuple(word for word in PROPERTIES if holds(table, word))
            self.assertTrue(same(properties_of(table), expected))


class FewestSteps(unittest.TestCase):
    def test_without_marks(self):
        for word, rescans, expected in [
            ("clean", False, 1), ("covered", False, 1), ("direct", False, 1), ("safe", False, 1),
            ("strong", False, 1), ("weak", False, 1), ("safe", True, 2), ("clean", True, 1), ("weak", True, 1),
        ]:
            self.assertTrue(same(fewest_steps(((), rescans), word), expected))

    def test_each_number_that_there_is(self):
        numbers = {
            ("clean", False): [1, 2], ("covered", False): [1, 2, 3, 4], ("direct", False): [1, 2, 3, 4],
            ("safe", False): [1, 2, 3, 4], ("safe", True): [2, 3, 4, 5], ("strong", False): [1, 2],
            ("weak", False): [1, 2, 3, 4],
        }
        for (word, rescans), expected in numbers.items():
            found = set()
            for lacks, _, steps in stories(word, rescans):
                # All other marks are there, so nothing shorter breaks it.
                table = without((all_marks(), rescans), *lacks)
                self.assertTrue(same(fewest_steps(table, word), len(steps)))
                found.add(len(steps))
            self.assertEqual(sorted(found), expected)

    def test_one_mark_after_the_other(self):
        table = EMPTY
        expected = [1, 2, 2, 2, 2]
        marks = [MAKING, *[("store", "unscanned", "black", old, "white", "new") for old in ("black", "grey", "none")]]
        for number, mark in zip(expected, marks):
            self.assertEqual(fewest_steps(table, "safe"), number)
            table = joined(table, ((mark,), False))
        self.assertEqual(fewest_steps(table, "safe"), 2)
        self.assertIsNone(fewest_steps(joined(table, ((LOADING,), False)), "safe"))

    def test_none_exactly_if_it_holds(self):
        for table in drawn_tables(60):
            for word in PROPERTIES:
                self.assertIs(fewest_steps(table, word) is None, holds(table, word))


class BreakingRun(unittest.TestCase):
    def check(self, table, word):
        run = breaking_run(table, word)
        self.assertIs(run is None, holds(table, word))
        if run is None:
            return
        self.assertIs(is_run(table, run), True)
        self.assertIs(shows_break(table, word, run), True)
        self.assertIsNotNone(first_break(table, run, word))
        self.assertEqual(thread_steps(run), fewest_steps(table, word))
        heap, steps = run
        self.assertIs(is_heap(heap), True)
        made = len([step for step in steps if step[0] == "new"])
        self.assertLessEqual(len(heap[1]) + made, 5)
        self.assertIn(heap[0], (1, 2))
        self.assertIn(len(heap[2]), (1, 2))
        self.assertLessEqual(len(steps), 200)
        self.assertLessEqual(thread_steps(run), 5)

    def test_drawn_tables(self):
        for table in drawn_tables(120):
            for word in PROPERTIES:
                self.check(table, word)

    def test_tables_for_which_it_just_holds_or_does_not(self):
        for word, table in tables_near(6):
            self.check(table, word)

    def test_known_tables_and_joined_ones(self):
        for one, other in itertools.product(KNOWN, repeat=2):
            for word in PROPERTIES:
                self.check(joined(known_table(one), known_table(other)), word)
                self.check((known_table(one)[0], not known_table(one)[1]), word)

    def test_all_marks_but_one_or_two(self):
        for rescans in BOTH:
            for mark in all_marks():
                for word in PROPERTIES:
                    self.check(without((all_marks(), rescans), mark), word)
                    self.check(without((all_marks(), rescans), mark, LOADING), word)


class Searched(unittest.TestCase):
    """No search over small heaps finds a run that breaks what holds, or one with fewer thread steps."""

    def compare(self, table, found):
        for word, many in found.items():
            fewest = fewest_steps(table, word)
            self.assertIsNotNone(fewest, (table, word))
            self.assertLessEqual(fewest, many, (table, word))

    def test_all_heaps_with_two_objects(self):
        broken = 0
        for table in [thrown_table(seed, 10) for seed in range(8)] + [EMPTY, RESCANS]:
            found = least_breaks(table, all_heaps(1, 2, 2), 5, 2)
            self.compare(table, found)
            broken += len(found)
        self.assertGreater(broken, 15)

    def test_new_objects(self):
        broken = 0
        for seed in range(6):
            table = without(thrown_table(seed, 10), MAKING)
            found = least_breaks(table, [(1, ((None,),), ((0,), (0,))), (1, ((0,),), ((0,), ()))], 4, 3)
            self.compare(table, found)
            broken += len(found)
        self.assertGreater(broken, 10)

    def test_heaps_of_three_and_four_objects(self):
        broken = 0
        for number, (word, table) in enumerate(tables_near(1)):
            heaps = [thrown_heap(seed, 1, 3, 2) for seed in range(number, number + 4)]
            heaps.append(thrown_heap(number, 2, 4, 2))
            found = least_breaks(table, heaps, 1, 4)
            self.compare(table, found)
            broken += len(found)
        self.assertGreater(broken, 40)

    def test_the_heaps_of_runs_that_break_it(self):
        for word, rescans in [("safe", False), ("safe", True), ("weak", False), ("direct", True)]:
            for lacks, heap, steps in stories(word, rescans)[::20]:
                table = without((all_marks(), rescans), *lacks)
                found = least_breaks(table, [heap], min(len(steps), 2), 5)
                self.compare(table, found)
                self.assertEqual(word in found, len(steps) <= 2)

    def check_game(self, table, word, objects, width):
        fewest = fewest_steps(table, word)
        most = 5 if fewest is None else fewest - 1
        self.assertIsNone(least_break(table, word, objects, width, most), (table, word))

    def test_more_freedom_than_any_run_has_with_three_objects(self):
        for seed in range(20):
            for word in PROPERTIES:
                self.check_game(thrown_table(seed), word, 3, 1)

    def test_more_freedom_where_it_just_holds_or_does_not(self):
        for word, table in tables_near(2):
            self.check_game(table, word, 3, 1)

    def test_two_slots(self):
        for word in ("covered", "safe", "weak"):
            self.check_game(near_tables(word, 7)[0], word, 3, 2)

    def test_the_freedom_is_not_too_little(self):
        """Three objects, in one slot each, are enough to break many tables with the fewest thread steps."""
        found = 0
        for word, table in tables_near(2):
            fewest = fewest_steps(table, word)
            if fewest is not None and least_break(table, word, 3, 1, fewest) == fewest:
                found += 1
        self.assertGreater(found, 30)


class ShowsBreak(unittest.TestCase):
    def test_ordinary(self):
        expected = {"clean": True, "covered": True, "direct": True, "safe": True, "strong": False, "weak": False}
        for word in PROPERTIES:
            self.assertIs(shows_break(EMPTY, word, RUN), expected[word])
            self.assertIs(shows_break(EMPTY, word, (HEAP, RUN[1][:1])), False)
            self.assertIs(shows_break(EMPTY, word, (HEAP, RUN[1][:3])), expected[word] and word != "safe")

    def test_long_runs(self):
        shown = 0
        for seed in range(20):
            table = thrown_table(seed, 6)
            run = thrown_run(table, thrown_heap(seed, 1, 5, 2), seed, 60)
            for word in PROPERTIES:
                expected = first_break(table, run, word) is not None
                self.assertIs(shows_break(table, word, run), expected)
                shown += expected
        self.assertGreater(shown, 20)

    def test_not_a_run_of_this_table(self):
        steps = RUN[1][:2] + (("scan", 1),)
        self.assertIs(shows_break(EMPTY, "clean", (HEAP, steps)), False)
        self.assertIs(shows_break(EMPTY, "clean", (HEAP, steps[:2])), True)
        self.assertIs(shows_break(EMPTY, "safe", (HEAP, RUN[1] + (("drop", 0, 0),))), False)
        # This one is a run of the table, but has lost nothing at its end.
        self.assertIs(shows_break(RESCANS, "safe", RUN), False)
        self.assertIs(shows_break(known_table("load"), "safe", RUN), False)

    def test_at_most_200_steps(self):
        heap = (1, ((None,),), ((0,), ()))
        stores = (("store", 0, 0, 0, None),) * 250
        for many in (0, 198, 199, 248):
            run = (heap, stores[:many] + (("visit", 0), ("new", 0)))
            self.assertIs(shows_break(EMPTY, "clean", run), many <= 198)
        self.assertIs(shows_break(EMPTY, "clean", (heap, (("visit", 0), ("new", 0)) + stores[:198])), True)
        self.assertIs(shows_break(EMPTY, "clean", (heap, (("visit", 0), ("new", 0)) + stores[:199])), False)

    def test_more_objects_and_threads_than_a_breaking_run_has(self):
        heap = (4, ((None,) * 4,) * 11, ((0,), (), (), (5,)))
        run = (heap, (("visit", 3), ("new", 3)))
        self.assertIs(shows_break(EMPTY, "clean", run), True)

    def test_any_value(self):
        for value in ANY + [HEAP, RUN[1], RUN + (None,), (RUN,), (RUN[1], HEAP), {"run": RUN}]:
            before = copy.deepcopy(value)
            for word in PROPERTIES:
                self.assertIs(shows_break(EMPTY, word, value), False)
            self.assertTrue(same(before, value))

    def test_lists_in_place_of_tuples_and_booleans_in_place_of_integers(self):
        for run in (RUN, breaking_run(EMPTY, "clean"), breaking_run(RESCANS, "safe")):
            for value in lists_for_tuples(run) + booleans_for_integers(run):
                for word in PROPERTIES:
                    self.assertIs(shows_break(EMPTY, word, value), False)

    def test_any_value_in_each_place(self):
        for value in ANY:
            self.assertIs(shows_break(EMPTY, "clean", (value, RUN[1])), False)
            self.assertIs(shows_break(EMPTY, "clean", (HEAP, value)), False)
            self.assertIs(shows_break(EMPTY, "clean", (HEAP, RUN[1][:2] + (value,))), False)


class WrongWords(unittest.TestCase):
    def test_any_other_value(self):
        for value in ANY + NO_WORDS:
            before = copy.deepcopy(value)
            for call in (
                lambda: holds(EMPTY, value),
                lambda: holds(word=value, table=EMPTY),
                lambda: fewest_steps(EMPTY, value),
                lambda: fewest_steps(word=value, table=RESCANS),
                lambda: breaking_run(EMPTY, value),
                lambda: breaking_run(word=value, table=(all_marks(), True)),
                lambda: shows_break(EMPTY, value, RUN),
                lambda: shows_break(value=None, word=value, table=EMPTY),
            ):
                with self.assertRaises(BadProperty) as caught:
                    call()
                self.assertIs(caught.exception.word, value)
            self.assertTrue(same(before, value))


class Unchanged(unittest.TestCase):
    def test_everything_is_as_before(self):
        for table in drawn_tables(5) + [EMPTY, known_table("both")]:
            before = copy.deepcopy(table)
            for word in PROPERTIES:
                run = breaking_run(table, word)
                kept = copy.deepcopy(run)
                self.assertTrue(same(breaking_run(table, word), run))
                shows_break(table, word, run)
                self.assertTrue(same(run, kept))
                self.assertIs(holds(table, word), holds(table, word))
            self.assertTrue(same(before, table))


if __name__ == "__main__":
    unittest.main()
