"""Point [8]: properties."""

import copy
import itertools
import unittest

from shadebarriers import properties
from shadebarriers.errors import BadProperty
from shadebarriers.marks import all_marks, known_table
from shadebarriers.properties import PROPERTIES, first_break, has
from shadebarriers.runs import states_of
from shadebarriers.states import start
from tests.model import Model, all_states
from tests.thrown import thrown_heap, thrown_run
from tests.values import ANY, same

EMPTY = ((), False)
RESCANS = ((), True)
WORDS = ("clean", "covered", "direct", "safe", "strong", "weak")
HEAP = (1, ((1,), (None,)), ((0,),))
RUN = (HEAP, (("visit", 0), ("load", 0, 0, 0), ("store", 0, 0, 0, None), ("scan", 0)))
NO_WORDS = [
    "Safe", "safe ", " safe", "", "value", "old", "both", "safe\n", ("safe",), ["safe"], {"safe": "safe"}, WORDS,
]


class Constant(unittest.TestCase):
    def test_the_six_words(self):
        self.assertTrue(same(PROPERTIES, WORDS))
        self.assertTrue(same(properties.PROPERTIES, tuple(sorted(WORDS))))


class Has(unittest.TestCase):
    def check(self, states, tables):
        for state in states:
            model = Model(state)
            for table in tables:
                for word in WORDS:
                    self.assertIs(has(table, state, word), model.has(table, word), (table[1], state, word))

    def test_two_objects_and_one_thread(self):
        self.check(all_states(1, 2, 1), [EMPTY, RESCANS, known_table("value")])

    def test_two_threads(self):
        self.check(all_states(1, 2, 2), [EMPTY, RESCANS])

    def test_two_slots(self):
        self.check(itertools.islice(all_states(2, 2, 1), 0, None, 2), [EMPTY])

    def test_three_objects(self):
        self.check(itertools.islice(all_states(1, 3, 1), 0, None, 3), [EMPTY])

    def test_no_objects(self):
        for scanned in (True, False):
            for word in WORDS:
                self.assertIs(has(EMPTY, (1, (), (), ((),), (scanned,)), word), True)

    def test_the_start_has_every_property(self):
        for seed in range(20):
            state = start(thrown_heap(seed, seed % 4 + 1, seed % 13, seed % 4 + 1))
            for word in WORDS:
                self.assertIs(has(EMPTY, state, word), True)

    def test_arguments_by_name(self):
        for state in itertools.islice(all_states(1, 2, 1), 0, None, 17):
            for word in WORDS:
                self.assertIs(has(word=word, state=state, table=RESCANS), has(RESCANS, state, word))

    def test_the_table_matters_for_safe_alone_and_there_only_its_rescan(self):
        for state in all_states(1, 2, 1):
            for word in WORDS:
                expected = has(EMPTY, state, word)
                self.assertIs(has((all_marks(), False), state, word), expected)
                rescanned = has(RESCANS, state, word)
                self.assertIs(has((all_marks(), True), state, word), rescanned)
                if word != "safe":
                    self.assertIs(rescanned, expected)

    def test_safe_with_and_without_a_rescan(self):
        held = (1, ((None,),), ("white",), ((0,),), (True,))
        self.assertIs(has(EMPTY, held, "safe"), False)
        self.assertIs(has(RESCANS, held, "safe"), True)
        below = (1, ((1,), (None,)), ("black", "white"), ((0,),), (True,))
        self.assertIs(has(EMPTY, below, "safe"), False)
        self.assertIs(has(RESCANS, below, "safe"), False)

    def test_safe_needs_an_ended_state_and_a_reachable_object(self):
        slots = ((None,), (None,))
        self.assertIs(has(EMPTY, (1, slots, ("grey", "white"), ((1,),), (True,)), "safe"), True)
        self.assertIs(has(EMPTY, (1, slots, ("black", "white"), ((1,), ()), (True, False)), "safe"), True)
        self.assertIs(has(EMPTY, (1, slots, ("black", "white"), ((0,),), (True,)), "safe"), True)
        self.assertIs(has(EMPTY, (1, slots, ("black", "white"), ((0, 1),), (True,)), "safe"), False)

    def test_strong_and_weak(self):
        slots = ((2, None), (2, None), (None, None))
        for state, strong, weak in [
            ((2, slots, ("black", "white", "white"), ((),), (False,)), False, False),
            ((2, slots, ("black", "grey", "white"), ((),), (False,)), False, True),
            ((2, slots, ("grey", "white", "white"), ((),), (False,)), True, True),
            ((2, slots, ("black", "white", "grey"), ((),), (False,)), True, True),
            # Covered through a white object.
            ((2, slots + ((None, 1),), ("black", "white", "white", "grey"), ((),), (False,)), False, True),
            # Not covered through a black one.
            ((2, slots + ((None, 1),), ("black", "black", "white", "grey"), ((),), (False,)), False, False),
        ]:
            self.assertIs(has(EMPTY, state, "strong"), strong, state)
            self.assertIs(has(EMPTY, state, "weak"), weak, state)

    def test_each_white_object_counts_for_weak(self):
        slots = ((1, 2), (None, None), (None, None), (1, None))
        self.assertIs(has(EMPTY, (2, slots, ("black", "white", "white", "grey"), ((),), (False,)), "weak"), False)
        self.assertIs(has(EMPTY, (2, slots, ("black", "white", "black", "grey"), ((),), (False,)), "weak"), True)

    def test_clean_direct_and_covered(self):
        chain = ((1,), (2,), (None,))
        for colours, held, scanned, expected in [
            (("grey", "white", "white"), ((),), (True,), (True, True, True)),
            (("grey", "white", "white"), ((1,),), (False,), (True, True, True)),
            (("grey", "white", "white"), ((0,),), (True,), (True, True, True)),
            (("grey", "white", "white"), ((1,),), (True,), (False, True, True)),
            (("grey", "white", "white"), ((2,),), (True,), (False, False, True)),
            (("grey", "white", "white"), ((1, 2),), (True,), (False, False, True)),
            (("grey", "black", "white"), ((2,),), (True,), (False, False, False)),
            (("white", "white", "white"), ((0,),), (True,), (False, False, False)),
            (("black", "white", "white"), ((), (1,)), (True, False), (True, True, True)),
            (("black", "white", "white"), ((), (1,)), (False, True), (False, False, False)),
            (("grey", "white", "white"), ((2,), (1,)), (False, True), (False, True, True)),
        ]:
            state = (1, chain, colours, held, scanned)
            got = tuple(has(EMPTY, state, word) for word in ("clean", "direct", "covered"))
            self.assertEqual(got, expected, state)

    def test_some_properties_bring_others(self):
        for state in all_states(1, 2, 2):
            had = {word for word in WORDS if has(EMPTY, state, word)}
            self.assertTrue("strong" not in had or "weak" in had)
            self.assertTrue("clean" not in had or "direct" in had)
            self.assertTrue("direct" not in had or "covered" in had)

    def test_object_in_its_own_slot(self):
        self.assertIs(has(EMPTY, (1, ((0,),), ("black",), ((0,),), (True,)), "strong"), True)
        self.assertIs(has(EMPTY, (1, ((0,),), ("white",), ((0,),), (True,)), "direct"), False)
        self.assertIs(has(EMPTY, (1, ((0,),), ("white",), ((0,),), (True,)), "covered"), False)


class FirstBreak(unittest.TestCase):
    def test_long_runs(self):
        broken = 0
        for seed in range(20):
            for table in (EMPTY, RESCANS, known_table("old"), known_table("holder")):
                run = thrown_run(table, thrown_heap(seed, seed % 2 + 1, seed % 7 + 1, seed % 2 + 1), seed)
                models = [Model(state) for state in states_of(table, run)]
                for word in WORDS:
                    expected = next((at for at, model in enumerate(models) if not model.has(table, word)), None)
                    self.assertTrue(same(first_break(table, run, word), expected))
                    broken += expected is not None
        self.assertGreater(broken, 40)

    def test_ordinary(self):
        expected = dict(zip(WORDS, [2, 3, 3, 4, None, None]))
        for word in WORDS:
            self.assertTrue(same(first_break(EMPTY, RUN, word), expected[word]))
            self.assertTrue(same(first_break(word=word, run=RUN, table=EMPTY), expected[word]))

    def test_the_first_of_several(self):
        steps = RUN[1][:2] + (("drop", 0, 1), ("load", 0, 0, 0))
        self.assertEqual(first_break(EMPTY, (HEAP, steps), "clean"), 2)
        self.assertEqual(first_break(EMPTY, (HEAP, steps[:1]), "clean"), None)

    def test_the_last_state_counts(self):
        for many, expected in [(3, None), (4, 4)]:
            self.assertEqual(first_break(EMPTY, (HEAP, RUN[1][:many]), "safe"), expected)

    def test_with_a_rescan(self):
        self.assertIsNone(first_break(RESCANS, RUN, "safe"))
        self.assertEqual(first_break(RESCANS, RUN, "clean"), 2)

    def test_without_steps(self):
        for seed in range(10):
            for word in WORDS:
                self.assertIsNone(first_break(EMPTY, (thrown_heap(seed, 1, seed, 2), ()), word))

    def test_more_than_200_steps(self):
        heap = (1, ((1,), (None,)), ((0,), ()))
        steps = (("store", 0, 0, 0, 0), ("store", 0, 0, 0, None)) * 150
        self.assertIsNone(first_break(EMPTY, (heap, steps), "clean"))
        late = steps + (("visit", 0), ("new", 0))
        self.assertEqual(first_break(EMPTY, (heap, late), "clean"), 302)


class WrongWords(unittest.TestCase):
    def test_any_other_value(self):
        for value in ANY + NO_WORDS:
            before = copy.deepcopy(value)
            for call in (
                lambda: has(EMPTY, start(HEAP), value),
                lambda: has(table=EMPTY, state=start(HEAP), word=value),
                lambda: first_break(EMPTY, RUN, value),
                lambda: first_break(table=EMPTY, run=(HEAP, ()), word=value),
            ):
                with self.assertRaises(BadProperty) as caught:
                    call()
                self.assertIs(caught.exception.word, value)
            self.assertTrue(same(before, value))

    def test_ahead_of_all_other_errors(self):
        # The second step of this is not possible.
        no_run = (HEAP, (("visit", 0), ("load", 0, 1, 0)))
        for value in ["Safe", None, 0, [], ("safe",)]:
            with self.assertRaises(BadProperty):
                first_break(EMPTY, no_run, value)


class Unchanged(unittest.TestCase):
    def test_everything_is_as_before(self):
        table = known_table("both")
        run = thrown_run(table, thrown_heap(5, 2, 4, 2), 5)
        before = copy.deepcopy((table, run, PROPERTIES))
        for word in WORDS:
            self.assertTrue(same(first_break(table, run, word), first_break(table, run, word)))
            for state in states_of(table, run):
                self.assertIs(has(table, state, word), has(table, state, word))
        self.assertTrue(same(before, (table, run, PROPERTIES)))


if __name__ == "__main__":
    unittest.main()
