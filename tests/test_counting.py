"""Points [12] and [3](f): for how many tables a property holds."""

import copy
import itertools
import unittest

from shadebarriers.counting import count_least, count_within
from shadebarriers.demands import demands_of, least_answers
from shadebarriers.errors import BadProperty
from shadebarriers.judging import holds
from shadebarriers.marks import all_marks, joined, known_table
from shadebarriers.needless import least
from shadebarriers.properties import PROPERTIES
from tests.formula import count_by_formula, holds_by_formula
from tests.thrown import near_tables, picks, thrown_table
from tests.values import ANY, same

BOTH = (False, True)
EMPTY = ((), False)
FULL = (all_marks(), False)
MAKING = ("new", "scanned")
NUMBERS = {"clean": 9, "covered": 171, "direct": 90, "strong": 72, "weak": 104}


def without(table, marks):
    return (tuple(mark for mark in table[0] if mark not in marks), table[1])


def count_one_by_one(table, word):
    missing = [mark for mark in all_marks() if mark not in table[0]]
    found = 0
    for choice in itertools.product((False, True), repeat=len(missing)):
        added = tuple(mark for mark, is_added in zip(missing, choice) if is_added)
        found += holds((tuple(sorted(table[0] + added)), table[1]), word)
    return found


def tables_that_lack_few(word, seed):
    """Tables that lack a few marks that matter for a property, and a few that may not."""
    source = picks(seed)
    for rescans in BOTH:
        demands = demands_of(word, rescans)
        lacking = {mark for _ in range(2) for mark in demands[next(source) % len(demands)]}
        lacking |= {all_marks()[next(source) % 120] for _ in range(2)}
        yield without((all_marks(), rescans), sorted(lacking)[:8])


class CountWithin(unittest.TestCase):
    def test_one_by_one(self):
        below = 0
        for word in PROPERTIES:
            for seed in range(3):
                for table in tables_that_lack_few(word, seed):
                    expected = count_one_by_one(table, word)
                    self.assertTrue(same(count_within(table, word), expected), (table, word))
                    below += 0 < expected < 2 ** (120 - len(table[0]))
        self.assertGreater(below, 20)

    def test_the_sum_of_those_with_one_more_mark_and_those_without_it(self):
        for word in PROPERTIES:
            for table in tables_that_lack_few(word, 11):
                missing = [mark for mark in all_marks() if mark not in table[0]]
                for mark in missing:
                    larger = joined(table, ((mark,), False))
                    others = [other for other in missing if other != mark]
                    apart = 0
                    for many in range(len(others) + 1):
                        for added in itertools.combinations(others, many):
                            apart += holds((tuple(sorted(table[0] + added)), table[1]), word)
                    self.assertEqual(count_within(table, word), count_within(larger, word) + apart)

    def test_marks_that_do_not_matter_double_the_number(self):
        free = [("new", "unscanned"), ("load", "unscanned", "grey"), ("store", "scanned", "grey", "none", "white", "new")]
        for word in PROPERTIES:
            for seed in range(5):
                table = without(thrown_table(seed), free)
                many = count_within(table, word)
                for mark in free:
                    self.assertEqual(count_within(joined(table, ((mark,), False)), word) * 2, many)

    def test_without_marks(self):
        for word in PROPERTIES:
            for rescans in BOTH:
                expected = count_by_formula(word, rescans)
                self.assertTrue(same(count_within(((), rescans), word), expected))
                self.assertGreater(expected, 2 ** 100)
        self.assertEqual(count_within(EMPTY, "clean"), 91 * 2 ** 111)
        self.assertEqual(count_within(EMPTY, "strong"), 27 * 145 * 2 ** 106)

    def test_with_all_marks(self):
        for word in PROPERTIES:
            for rescans in BOTH:
                self.assertTrue(same(count_within((all_marks(), rescans), word), 1))

    def test_all_marks_but_one(self):
        for word in PROPERTIES:
            for rescans in BOTH:
                for mark in all_marks():
                    table = without((all_marks(), rescans), [mark])
                    self.assertEqual(count_within(table, word), 1 + holds(table, word))

    def test_a_property_that_no_larger_table_lacks(self):
        for table in [known_table("load"), known_table("both"), FULL]:
            self.assertEqual(count_within(table, "safe"), 2 ** (120 - len(table[0])))

    def test_only_tables_with_the_same_rescan(self):
        value = known_table("value")
        self.assertEqual(count_within(value, "safe"), 2 ** (120 - len(value[0])))
        apart = count_within((value[0], False), "safe")
        self.assertTrue(0 < apart < 2 ** (120 - len(value[0])))

    def test_great_numbers(self):
        for seed in range(10):
            table = thrown_table(seed, 3)
            for word in PROPERTIES:
                mark = all_marks()[seed * 12]
                if mark not in table[0]:
                    larger = count_within(joined(table, ((mark,), False)), word)
                    self.assertLessEqual(larger, count_within(table, word))
                    self.assertLessEqual(count_within(table, word), 2 * larger)

    def test_arguments_by_name_and_unchanged(self):
        for seed in range(5):
            table = thrown_table(seed)
            before = copy.deepcopy(table)
            for word in PROPERTIES:
                self.assertEqual(count_within(word=word, table=table), count_within(table, word))
            self.assertTrue(same(before, table))


class CountLeast(unittest.TestCase):
    def test_numbers(self):
        for word, many in NUMBERS.items():
            for rescans in BOTH:
                self.assertTrue(same(count_least(word, rescans), many))
        self.assertEqual(count_least("safe", False), 168)
        self.assertEqual(count_least("safe", True), 104)
        self.assertEqual(count_least(rescans=True, word="safe"), 104)

    def test_each_is_counted_once_and_is_least(self):
        for word in PROPERTIES:
            for rescans in BOTH:
                tables = {tuple(sorted(answer)) for answer in least_answers(demands_of(word, rescans))}
                self.assertEqual(count_least(word, rescans), len(tables))
                for marks in tables:
                    self.assertIs(holds_by_formula((marks, rescans), word), True)
                    for mark in marks:
                        self.assertIs(holds_by_formula(without((marks, rescans), [mark]), word), False)

    def test_every_least_table_is_among_them(self):
        for word in PROPERTIES:
            for rescans in BOTH:
                tables = {tuple(sorted(answer)) for answer in least_answers(demands_of(word, rescans))}
                for seed in range(10):
                    for marks, _ in near_tables(word, seed)[:3]:
                        if holds((marks, rescans), word):
                            self.assertIn(least((marks, rescans), word)[0], tables)

    def test_by_trying_all_sets_of_few_marks(self):
        for word in ("clean", "strong"):
            marks = sorted({mark for demand in demands_of(word, False) for mark in demand})[:14]
            rest = tuple(mark for mark in all_marks() if mark not in marks)
            found = 0
            for choice in itertools.product((False, True), repeat=len(marks)):
                own = [mark for mark, is_taken in zip(marks, choice) if is_taken]
                if holds_by_formula((tuple(own), False), word):
                    found += not any(
                        holds_by_formula((tuple(one for one in own if one != mark), False), word) for mark in own
                    )
            self.assertEqual(found, NUMBERS[word])
            self.assertIs(holds((rest, False), word), False)


class Formula(unittest.TestCase):
    def test_judged_as_the_formulas_say(self):
        for word in PROPERTIES:
            for seed in range(25):
                for table in near_tables(word, seed) + [thrown_table(seed)]:
                    self.assertIs(holds(table, word), holds_by_formula(table, word), (table, word))


class WrongWords(unittest.TestCase):
    def test_any_other_value(self):
        for value in ANY + ["Safe", "safe ", "", "value", ("safe",), ["safe"], PROPERTIES]:
            before = copy.deepcopy(value)
            for call in (
                lambda: count_within(EMPTY, value),
                lambda: count_within(word=value, table=FULL),
                lambda: count_least(value, False),
                lambda: count_least(rescans=True, word=value),
            ):
                with self.assertRaises(BadProperty) as caught:
                    call()
                self.assertIs(caught.exception.word, value)
            self.assertTrue(same(before, value))


if __name__ == "__main__":
    unittest.main()
