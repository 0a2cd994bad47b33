"""Point [6]: marks and tables."""

import copy
import itertools
import unittest

from shadebarriers.errors import BadWord
from shadebarriers.marks import all_marks, is_mark, is_table, is_within, joined, known_table, shaded
from tests.values import ANY, booleans_for_integers, integers_for_booleans, lists_for_tuples, same

STATES = ("scanned", "unscanned")
COLOURS = ("black", "grey", "white")
PLACES = COLOURS + ("none",)
WORDS = ("value", "holder", "old", "both", "load")
NEWS = [("new", "scanned"), ("new", "unscanned")]


def stores_with(who):
    """The marks of stores with this word, written down from the document once more."""
    holders = ("black", "white") if who == "holder" else COLOURS
    olds = ("white",) if who == "old" else PLACES
    news = ("white",) if who == "new" else PLACES
    return [("store", *rest, who) for rest in itertools.product(STATES, holders, olds, news)]


def expected_marks():
    loads = [("load", state, colour) for state in STATES for colour in COLOURS]
    return tuple(sorted(loads + NEWS + stores_with("holder") + stores_with("old") + stores_with("new")))


ALL = expected_marks()


class Marks(unittest.TestCase):
    def test_all_marks(self):
        self.assertEqual(len(ALL), 120)
        self.assertTrue(same(all_marks(), ALL))

    def test_all_marks_again(self):
        self.assertEqual(all_marks(), all_marks())

    def test_each_mark_is_one(self):
        for mark in ALL:
            self.assertIs(is_mark(mark), True)
            self.assertIs(is_mark(value=mark), True)

    def test_exactly_the_120_of_all_word_tuples(self):
        words = ("load", "new", "store", *STATES, *PLACES, "holder", "old")
        found = []
        for length in range(4):
            found += [row for row in itertools.product(words, repeat=length) if is_mark(row)]
        stores = itertools.product(("store", "load"), STATES + ("grey",), words, words, words, words)
        found += [row for row in stores if is_mark(row)]
        self.assertEqual(tuple(sorted(found)), ALL)

    def test_shading_only_what_is_white_or_a_holder_that_is_not_grey(self):
        for wrong in [
            ("store", "scanned", "grey", "none", "white", "holder"),
            ("store", "scanned", "none", "none", "white", "new"),
            ("store", "scanned", "black", "grey", "white", "old"),
            ("store", "scanned", "black", "none", "white", "old"),
            ("store", "scanned", "black", "white", "none", "new"),
            ("store", "scanned", "black", "white", "black", "new"),
            ("store", "scanned", "black", "white", "white", "both"),
            ("load", "scanned", "none"),
            ("new", "scanned", "black"),
            ("new", "grey"),
        ]:
            self.assertIs(is_mark(wrong), False, wrong)

    def test_too_short_and_too_long(self):
        for mark in ALL:
            self.assertIs(is_mark(mark[:-1]), False)
            self.assertIs(is_mark(mark + ("white",)), False)
            self.assertIs(is_mark(mark + mark), False)

    def test_any_value(self):
        for value in ANY:
            before = copy.deepcopy(value)
            self.assertIs(is_mark(value), False)
            self.assertTrue(same(before, value))

    def test_any_value_in_each_place(self):
        for mark in (ALL[0], NEWS[0], ALL[-1], stores_with("holder")[0]):
            for at in range(len(mark)):
                for value in ANY:
                    changed = mark[:at] + (value,) + mark[at + 1:]
                    self.assertIs(is_mark(changed), changed in ALL)

    def test_lists_are_not_marks(self):
        for mark in ALL:
            self.assertIs(is_mark(list(mark)), False)


class Tables(unittest.TestCase):
    def test_tables(self):
        for marks in [(), (ALL[0],), (ALL[119],), ALL[3:50], ALL[::7], ALL]:
            for rescans in (True, False):
                self.assertIs(is_table((marks, rescans)), True)
                self.assertIs(is_table(value=(marks, rescans)), True)

    def test_each_single_mark_and_each_pair(self):
        for mark in ALL:
            self.assertIs(is_table(((mark,), False)), True)
        for one, other in itertools.product(ALL[::5], repeat=2):
            self.assertIs(is_table(((one, other), True)), one < other)

    def test_marks_must_ascend_strictly(self):
        self.assertIs(is_table((ALL[::-1], False)), False)
        self.assertIs(is_table(((ALL[0], ALL[0]), False)), False)
        self.assertIs(is_table(((ALL[1], ALL[0]), False)), False)
        self.assertIs(is_table((ALL + (ALL[119],), False)), False)
        self.assertIs(is_table((ALL[:60] + ALL[59:], False)), False)

    def test_any_value(self):
        for value in ANY:
            before = copy.deepcopy(value)
            self.assertIs(is_table(value), False)
            self.assertTrue(same(before, value))

    def test_any_value_in_each_place(self):
        for value in ANY:
            self.assertIs(is_table((value, False)), same(value, ()))
            self.assertIs(is_table(((), value)), isinstance(value, bool))
            self.assertIs(is_table(((value,), False)), False)
            self.assertIs(is_table(((ALL[0], value, ALL[1]), False)), False)
            self.assertIs(is_table(((value, ALL[0]), False)), False)
            self.assertIs(is_table(((), False, value)), False)
            self.assertIs(is_table(((ALL[0][:2] + (value,),), False)), same(value, "white"))

    def test_lists_in_place_of_tuples_and_integers_of_booleans(self):
        for table in [((), False), (ALL[:2], True), (tuple(NEWS), False)]:
            self.assertIs(is_table(table), True)
            wrong = lists_for_tuples(table) + integers_for_booleans(table)
            self.assertGreater(len(wrong), 1)
            for value in wrong:
                self.assertIs(is_table(value), False)


class Joined(unittest.TestCase):
    def test_without_any_table(self):
        self.assertTrue(same(joined(), ((), False)))

    def test_one_table_is_itself(self):
        for marks in [(), ALL[:1], ALL[::3], ALL]:
            for rescans in (True, False):
                self.assertTrue(same(joined((marks, rescans)), (marks, rescans)))

    def test_marks_of_all_ascending_and_once(self):
        self.assertEqual(joined((ALL[5:9], False), (ALL[:7], False)), (ALL[:9], False))
        self.assertEqual(joined((ALL[::2], False), (ALL[1::2], False)), (ALL, False))
        parts = [((mark,), False) for mark in reversed(ALL)]
        self.assertEqual(joined(*parts), (ALL, False))
        self.assertEqual(joined(*parts, *parts), (ALL, False))

    def test_rescans_if_one_does(self):
        for rescans in itertools.product((True, False), repeat=3):
            self.assertIs(joined(*[((), each) for each in rescans])[1], any(rescans))

    def test_result_is_a_table(self):
        self.assertIs(is_table(joined(known_table("load"), known_table("value"), ((), True))), True)
        self.assertEqual(joined(joined(), joined()), joined())


class Within(unittest.TestCase):
    def test_marks(self):
        for one, other in itertools.product([(), ALL[:1], ALL[1:2], ALL[:2], ALL[::2], ALL], repeat=2):
            expected = all(mark in other for mark in one)
            self.assertIs(is_within((one, False), (other, False)), expected)
            self.assertIs(is_within(table=(one, True), other=(other, True)), expected)

    def test_rescans(self):
        for one, other in itertools.product((True, False), repeat=2):
            self.assertIs(is_within(((), one), ((), other)), other or not one)
            self.assertIs(is_within((ALL[:1], one), ((), other)), False)

    def test_parts_are_within_the_joined_table(self):
        for one, other in itertools.product(WORDS, repeat=2):
            whole = joined(known_table(one), known_table(other))
            self.assertIs(is_within(known_table(one), whole), True)


class Shaded(unittest.TestCase):
    def test_every_store_for_every_single_mark(self):
        stores = list(itertools.product(STATES, COLOURS, PLACES, PLACES))
        for mark in ALL:
            for store in stores:
                hit = mark[0] == "store" and mark[1:5] == store
                self.assertEqual(shaded(((mark,), False), *store), (mark[5],) if hit else ())

    def test_all_marks_at_once(self):
        for state, holder, old, new in itertools.product(STATES, COLOURS, PLACES, PLACES):
            expected = ["holder"] * (holder != "grey") + ["new"] * (new == "white") + ["old"] * (old == "white")
            table = (ALL, True)
            self.assertTrue(same(shaded(table, state, holder, old, new), tuple(expected)))
            self.assertEqual(shaded(table=table, state=state, holder=holder, old=old, new=new), tuple(expected))

    def test_empty_table(self):
        self.assertEqual(shaded(((), True), "scanned", "black", "white", "white"), ())


class KnownTables(unittest.TestCase):
    def expect(self, word, marks, rescans):
        self.assertTrue(same(known_table(word), (tuple(sorted(NEWS + marks)), rescans)), word)
        self.assertTrue(same(known_table(word=word), known_table(word)))

    def test_value(self):
        self.expect("value", stores_with("new"), True)

    def test_holder(self):
        marks = [("store", state, "black", old, "white", "holder") for state in STATES for old in PLACES]
        self.expect("holder", marks, True)

    def test_old(self):
        self.expect("old", stores_with("old"), False)

    def test_both(self):
        unscanned = [mark for mark in stores_with("new") if mark[1] == "unscanned"]
        self.expect("both", stores_with("old") + unscanned, False)

    def test_load(self):
        unscanned = [mark for mark in stores_with("new") if mark[1] == "unscanned"]
        loads = [("load", state, colour) for state in STATES for colour in COLOURS]
        self.expect("load", loads + unscanned, False)

    def test_sizes(self):
        sizes = [len(known_table(word)[0]) for word in WORDS]
        self.assertEqual(sizes, [26, 10, 26, 38, 20])

    def test_all_are_tables(self):
        for word in WORDS:
            self.assertIs(is_table(known_table(word)), True)

    def test_any_other_value(self):
        others = ["Value", "value ", " old", "new", "both\n", "loads", ("old",), ["load"], {"holder": "holder"}, WORDS]
        for value in ANY + others:
            before = copy.deepcopy(value)
            with self.assertRaises(BadWord) as caught:
                known_table(value)
            self.assertIs(caught.exception.word, value)
            self.assertTrue(same(before, value))
            with self.assertRaises(BadWord):
                known_table(word=value)


class Helpers(unittest.TestCase):
    def test_values_of_this_test_tell_booleans_from_integers(self):
        self.assertFalse(same((True,), (1,)))
        self.assertEqual(booleans_for_integers((0, (1, 2), None)), [(False, (1, 2), None), (0, (True, 2), None)])


if __name__ == "__main__":
    unittest.main()
