"""Points [10] and [3](d): needless marks, and least tables."""

import copy
import unittest

from shadebarriers.errors import BadProperty, Broken
from shadebarriers.judging import holds
from shadebarriers.marks import all_marks, is_table, is_within, joined, known_table
from shadebarriers.needless import least, needless, needs_rescan
from shadebarriers.properties import PROPERTIES
from tests.thrown import near_tables, picks, thrown_table
from tests.values import ANY, same

EMPTY = ((), False)
FULL = (all_marks(), False)
RESCANNING = (all_marks(), True)
KNOWN = [known_table(word) for word in ("value", "holder", "old", "both", "load")]
MAKING = ("new", "scanned")
LOADING = ("load", "scanned", "grey")


def without(table, mark):
    return (tuple(other for other in table[0] if other != mark), table[1])


def tables():
    found = [FULL, RESCANNING, EMPTY, *KNOWN, least(RESCANNING, "safe"), least(KNOWN[0], "safe")]
    found += [without(RESCANNING, MAKING), without(KNOWN[1], MAKING), least(KNOWN[1], "strong")]
    found += [thrown_table(seed) for seed in range(12)] + [thrown_table(seed, 15) for seed in range(6)]
    return found + [table for word in PROPERTIES for table in near_tables(word, 3)]


def holding():
    """Pairs of a table and a property that holds for it."""
    found = [(table, word) for table in tables() for word in PROPERTIES if holds(table, word)]
    assert len(found) > 100
    return found


def model_least(table, word):
    marks = list(table[0])
    for mark in sorted(marks, reverse=True):
        fewer = [other for other in marks if other != mark]
        if holds((tuple(fewer), table[1]), word):
            marks = fewer
    return (tuple(marks), table[1])


class Needless(unittest.TestCase):
    def test_all_marks_without_which_it_holds(self):
        for table, word in holding():
            expected = tuple(mark for mark in table[0] if holds(without(table, mark), word))
            self.assertTrue(same(needless(table, word), expected))

    def test_all_marks(self):
        for rescans in (False, True):
            for word in PROPERTIES:
                needed = {"clean": {MAKING, LOADING}, "covered": {MAKING}, "direct": {MAKING}}.get(word, set())
                if word == "safe" and not rescans:
                    needed = {MAKING}
                expected = tuple(mark for mark in all_marks() if mark not in needed)
                self.assertTrue(same(needless((all_marks(), rescans), word), expected))

    def test_each_alone_not_all_together(self):
        # Two marks that stand in for each other are both needless.
        table = least(FULL, "safe")
        twin = ("store", "unscanned", "black", "none", "white", "new")
        other = ("store", "unscanned", "black", "none", "white", "holder")
        self.assertEqual(len({twin, other} & set(table[0])), 1)
        both = joined(table, ((other, twin), False))
        self.assertEqual(needless(both, "safe"), (other, twin))

    def test_a_least_table_has_none(self):
        for table, word in holding():
            self.assertEqual(needless(least(table, word), word), ())


class NeedsRescan(unittest.TestCase):
    def test_as_holds_says(self):
        needed = 0
        for table, word in holding():
            expected = not holds((table[0], False), word)
            self.assertIs(needs_rescan(table, word), expected)
            needed += expected
        self.assertGreater(needed, 5)

    def test_known_tables(self):
        for table, expected in zip(KNOWN, (True, True, None, False, False)):
            if expected is not None:
                self.assertIs(needs_rescan(table, "safe"), expected)
                self.assertIs(needs_rescan(table, "weak"), False)

    def test_a_table_that_does_not_rescan_does_not_need_it(self):
        for word in PROPERTIES:
            self.assertIs(needs_rescan(FULL, word), False)
            self.assertIs(needs_rescan(RESCANNING, word), False)


class Least(unittest.TestCase):
    def test_from_the_last_mark_to_the_first(self):
        for table, word in holding():
            self.assertTrue(same(least(table, word), model_least(table, word)))

    def test_no_mark_can_be_removed(self):
        for table, word in holding():
            left = least(table, word)
            self.assertIs(is_table(left), True)
            self.assertIs(left[1], table[1])
            self.assertTrue(is_within(left, table))
            self.assertIs(holds(left, word), True)
            for mark in left[0]:
                self.assertIs(holds(without(left, mark), word), False)

    def test_the_first_of_two_that_stand_in_for_each_other_is_left(self):
        left = least(FULL, "strong")
        for state in ("scanned", "unscanned"):
            for old in ("black", "grey", "none"):
                holder, new = [("store", state, "black", old, "white", who) for who in ("holder", "new")]
                self.assertNotIn(new, left[0])
                if state == "unscanned":
                    self.assertIn(holder, left[0])
        self.assertIn(LOADING, left[0])
        self.assertIn(MAKING, left[0])
        self.assertEqual(len(left[0]), 5)

    def test_known_tables(self):
        # "both" needs the new objects, four stores into black objects and what is taken out of grey and white ones.
        for table, many in zip(KNOWN, (6, 6, None, 1 + 4 + 8 + 8, 5)):
            if many is not None:
                self.assertEqual(len(least(table, "safe")[0]), many)

    def test_of_a_least_table(self):
        for table, word in holding()[::5]:
            left = least(table, word)
            self.assertTrue(same(least(left, word), left))


class BrokenTables(unittest.TestCase):
    def test_raised_exactly_if_it_does_not_hold(self):
        raised = 0
        for table in tables():
            for word in PROPERTIES:
                for function in (needless, needs_rescan, least):
                    if holds(table, word):
                        function(table, word)
                        continue
                    raised += 1
                    with self.assertRaises(Broken) as caught:
                        function(table, word)
                    self.assertTrue(same(caught.exception.word, word))
        self.assertGreater(raised, 100)

    def test_broken_only_without_the_rescan_is_no_error(self):
        self.assertIs(needs_rescan(known_table("holder"), "safe"), True)
        with self.assertRaises(Broken):
            needs_rescan((known_table("holder")[0], False), "safe")


class WrongWords(unittest.TestCase):
    def test_any_other_value_ahead_of_broken(self):
        for value in ANY + ["Safe", "safe ", "", "value", ("safe",), ["safe"], PROPERTIES]:
            before = copy.deepcopy(value)
            for function in (needless, needs_rescan, least):
                for table in (EMPTY, FULL):
                    with self.assertRaises(BadProperty) as caught:
                        function(table, value)
                    self.assertIs(caught.exception.word, value)
                    with self.assertRaises(BadProperty):
                        function(word=value, table=table)
            self.assertTrue(same(before, value))


class Arguments(unittest.TestCase):
    def test_by_name_and_unchanged(self):
        for table, word in holding()[::4]:
            before = copy.deepcopy(table)
            for function in (needless, needs_rescan, least):
                self.assertTrue(same(function(word=word, table=table), function(table, word)))
            self.assertTrue(same(before, table))

    def test_more_marks_than_the_property_needs(self):
        for seed in range(6):
            source = picks(seed)
            base = least(FULL, "safe")
            extra = tuple(mark for mark in all_marks() if next(source) % 5 == 0)
            table = joined(base, (extra, seed % 2 == 1))
            self.assertTrue(is_within(least(table, "safe"), table))
            gone = set(table[0]) - set(needless(table, "safe"))
            self.assertLessEqual(gone, set(least(table, "safe")[0]))


if __name__ == "__main__":
    unittest.main()
