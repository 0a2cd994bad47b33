"""Points [11] and [3](e): price lists and the cheapest additions."""

import copy
import itertools
import unittest

from shadebarriers.errors import BadProperty
from shadebarriers.judging import holds
from shadebarriers.marks import all_marks, is_table, is_within, joined, known_table
from shadebarriers.needless import least
from shadebarriers.prices import cheapest, is_price_list
from shadebarriers.properties import PROPERTIES
from tests.thrown import near_tables, picks, thrown_table
from tests.values import ANY, booleans_for_integers, lists_for_tuples, same

EMPTY = ((), False)
RESCANS = ((), True)
FULL = (all_marks(), False)
NOTHING = ((), None)
EACH = (tuple((mark, 1) for mark in all_marks()), 1)
MAKING = ("new", "scanned")
LOADING = ("load", "scanned", "grey")
LIST = (((LOADING, 0), (MAKING, 1000)), 7)


def without(table, marks):
    return (tuple(mark for mark in table[0] if mark not in marks), table[1])


def every_addition(table, price_list):
    """All pairs of a total and a larger table, from all sets of additions in the price list."""
    prices = [(mark, price) for mark, price in price_list[0] if mark not in table[0]]
    rescans = [(table[1], 0)]
    if not table[1] and price_list[1] is not None:
        rescans.append((True, price_list[1]))
    for many in range(len(prices) + 1):
        for added in itertools.combinations(prices, many):
            larger = tuple(sorted(table[0] + tuple(mark for mark, _ in added)))
            for rescan, price in rescans:
                yield price + sum(cost for _, cost in added), (larger, rescan)


def small_lists(table, word, seed):
    """A table from which some marks are gone that the property needs, and price lists of those and a few others."""
    source = picks(seed)
    base = least(joined(table, FULL), word)
    gone = [mark for mark in base[0] if next(source) % 3][:5]
    others = [mark for mark in all_marks() if mark in related(gone)][:5]
    offered = sorted({*gone, *others, all_marks()[next(source) % 120]})[:next(source) % 5 + 4]
    prices = tuple((mark, [0, 1, 2, 5, 1000][next(source) % 5]) for mark in offered)
    rescan = [None, 0, 3, 1000][next(source) % 4]
    return without(base, gone), (prices, rescan)


def related(marks):
    """The marks that differ from one of these in the last word only."""
    return {mark[:-1] + (word,) for mark in marks for word in ("holder", "new", "old", "black", "white")}


class IsPriceList(unittest.TestCase):
    def test_ordinary(self):
        for value in (LIST, EACH, NOTHING, ((), 0), ((), 1000), (LIST[0], None), (LIST[0][1:], 1)):
            self.assertIs(is_price_list(value), True)
        self.assertIs(is_price_list(value=LIST), True)

    def test_prices_from_0_to_1000(self):
        for price, expected in [(0, True), (1, True), (999, True), (1000, True), (-1, False), (1001, False)]:
            self.assertIs(is_price_list((((MAKING, price),), None)), expected)
            self.assertIs(is_price_list(((), price)), expected)
        for price in (10**5000, -10**5000):
            self.assertIs(is_price_list((((MAKING, price),), None)), False)
            self.assertIs(is_price_list(((), price)), False)

    def test_a_rescan_may_be_none_and_a_price_may_not(self):
        self.assertIs(is_price_list(((), None)), True)
        self.assertIs(is_price_list((((MAKING, None),), 1)), False)

    def test_a_mark_twice_and_out_of_order(self):
        self.assertIs(is_price_list((((LOADING, 1), (LOADING, 1)), None)), False)
        self.assertIs(is_price_list((((LOADING, 1), (LOADING, 2)), None)), False)
        self.assertIs(is_price_list((((MAKING, 1), (LOADING, 1)), None)), False)
        self.assertIs(is_price_list((EACH[0][::-1], 1)), False)
        # The order is that of the marks; the prices need not be in any.
        self.assertIs(is_price_list((((LOADING, 9), (MAKING, 1)), None)), True)
        for at in range(0, 119, 7):
            swapped = EACH[0][:at] + (EACH[0][at + 1], EACH[0][at]) + EACH[0][at + 2:]
            self.assertIs(is_price_list((swapped, 1)), False)

    def test_no_marks(self):
        for mark in [("load", "scanned"), ("new", "black"), ("store", "scanned", "grey", "none", "white", "holder"), ()]:
            self.assertIs(is_price_list((((mark, 1),), None)), False)

    def test_any_value(self):
        for value in ANY + [LIST[0], LIST + (None,), LIST[:1], (LIST,), (7, LIST[0]), (None, None)]:
            before = copy.deepcopy(value)
            self.assertIs(is_price_list(value), same(value, ((), 0)) or same(value, NOTHING))
            self.assertTrue(same(before, value))

    def test_any_value_in_each_place(self):
        for value in ANY:
            price = isinstance(value, int) and not isinstance(value, bool) and 0 <= value <= 1000
            self.assertIs(is_price_list((LIST[0], value)), price or value is None)
            self.assertIs(is_price_list((value, 7)), same(value, ()))
            self.assertIs(is_price_list(((value,), 7)), False)
            self.assertIs(is_price_list((((LOADING, value),), 7)), price)
            self.assertIs(is_price_list((((value, 1),), 7)), False)
            self.assertIs(is_price_list((((LOADING, 1, value),), 7)), False)
            self.assertIs(is_price_list(LIST + (value,)), False)

    def test_lists_in_place_of_tuples_and_booleans_in_place_of_integers(self):
        for value in lists_for_tuples(LIST) + booleans_for_integers(LIST) + booleans_for_integers(((), 1)):
            self.assertIs(is_price_list(value), False)


class Cheapest(unittest.TestCase):
    def check(self, table, price_list, word):
        """What is returned is right, but for whether it is the cheapest."""
        found = cheapest(table, price_list, word)
        if found is None:
            return None
        total, larger = found
        self.assertIs(isinstance(found, tuple) and len(found) == 2, True)
        self.assertIs(is_table(larger), True)
        self.assertTrue(is_within(table, larger))
        self.assertIs(holds(larger, word), True)
        prices = dict(price_list[0])
        added = [mark for mark in larger[0] if mark not in table[0]]
        self.assertLessEqual(set(added), set(prices))
        expected = sum(prices[mark] for mark in added)
        if larger[1] and not table[1]:
            self.assertIsNotNone(price_list[1])
            expected += price_list[1]
        self.assertTrue(same(total, expected))
        return total

    def compare(self, table, price_list, word):
        self.assertIs(is_price_list(price_list), True)
        totals = [total for total, larger in every_addition(table, price_list) if holds(larger, word)]
        expected = min(totals, default=None)
        self.assertEqual(self.check(table, price_list, word), expected)
        return expected

    def test_by_trying_all_additions(self):
        totals = []
        for word in PROPERTIES:
            for seed in range(10):
                table, price_list = small_lists(thrown_table(seed, 5), word, seed)
                totals.append(self.compare(table, price_list, word))
        self.assertGreater(len([total for total in totals if total is None]), 3)
        self.assertGreater(len([total for total in totals if total]), 15)

    def test_by_trying_all_additions_where_it_just_holds_or_does_not(self):
        for word in PROPERTIES:
            for seed, table in enumerate(near_tables(word, 9)):
                source = picks(seed)
                marks = sorted({all_marks()[next(source) % 120] for _ in range(4)} | {MAKING, LOADING})
                prices = tuple((mark, next(source) % 4) for mark in marks)
                self.compare(table, (prices, [None, 2][seed % 2]), word)

    def test_nothing_to_add(self):
        for table in (FULL, (all_marks(), True), known_table("load"), known_table("value")):
            for price_list in (NOTHING, EACH, LIST, ((), 0)):
                self.assertEqual(self.check(table, price_list, "weak"), 0)
                self.assertEqual(self.check(table, price_list, "safe"), 0)

    def test_no_additions_that_give_it(self):
        for word in PROPERTIES:
            for price_list in (NOTHING, ((), 5), LIST):
                for table in (EMPTY, RESCANS):
                    if word != "clean" or price_list != LIST:
                        self.assertIsNone(cheapest(table, price_list, word))

    def test_a_total_of_0(self):
        free = (tuple((mark, 0) for mark in all_marks()), None)
        for word in PROPERTIES:
            self.assertEqual(self.check(EMPTY, free, word), 0)
            self.assertEqual(self.check(RESCANS, free, word), 0)

    def test_high_prices(self):
        dear = (tuple((mark, 1000) for mark in all_marks()), 1000)
        for word, many in [("clean", 3), ("strong", 5), ("weak", 5), ("direct", 3), ("covered", 3), ("safe", 5)]:
            self.assertEqual(self.check(EMPTY, EACH, word), many)
            self.assertEqual(self.check(EMPTY, dear, word), 1000 * many)

    def test_marks_that_the_table_has_cost_nothing(self):
        for word in PROPERTIES:
            total, larger = cheapest(EMPTY, EACH, word)
            half = (larger[0][::2], False)
            self.assertEqual(self.check(half, EACH, word), total - len(half[0]))
            self.assertEqual(self.check(larger, EACH, word), 0)

    def test_the_rescan(self):
        # Without a rescan the stores of scanned threads are not enough.
        table = (known_table("value")[0], False)
        for rescan in (0, 1, 1000):
            self.assertEqual(self.check(table, ((), rescan), "safe"), rescan)
            self.assertEqual(cheapest(table, ((), rescan), "safe"), (rescan, known_table("value")))
        self.assertIsNone(cheapest(table, ((), None), "safe"))
        self.assertEqual(cheapest(table, (((LOADING, 3),), 4), "safe")[0], 3)
        self.assertEqual(cheapest(table, (((LOADING, 5),), 4), "safe")[0], 4)
        # A table that rescans already does not pay for it.
        for rescan in (None, 0, 1000):
            self.assertEqual(cheapest(known_table("value"), ((), rescan), "safe"), (0, known_table("value")))

    def test_a_rescan_is_kept(self):
        for word in PROPERTIES:
            total, larger = cheapest(RESCANS, EACH, word)
            self.assertIs(larger[1], True)
            self.assertIs(holds(larger, word), True)

    def test_only_from_the_price_list(self):
        prices = tuple((mark, 1) for mark in all_marks() if mark != MAKING)
        self.assertIsNone(cheapest(EMPTY, (prices, None), "safe"))
        self.assertIsNone(cheapest(EMPTY, (prices, 1), "clean"))
        self.assertIsNotNone(cheapest(EMPTY, (prices, 1), "safe"))

    def test_dear_marks_are_gone_around(self):
        prices = tuple((mark, 1000 if mark == LOADING else 1) for mark in all_marks())
        # What is taken out of grey slots is shaded, scanned threads shade what they load from white objects, and
        # nothing white gets into a black object where something white is.
        self.assertEqual(self.check(EMPTY, (prices, None), "safe"), 1 + 3 + 8 + 1 + 1)

    def test_arguments_by_name_and_unchanged(self):
        for seed in range(4):
            table, price_list = small_lists(EMPTY, "safe", seed)
            before = copy.deepcopy((table, price_list))
            found = cheapest(table, price_list, "safe")
            self.assertTrue(same(cheapest(word="safe", price_list=price_list, table=table), found))
            self.assertTrue(same(before, (table, price_list)))


class WrongWords(unittest.TestCase):
    def test_any_other_value(self):
        for value in ANY + ["Safe", "safe ", "", "value", ("safe",), ["safe"], PROPERTIES]:
            before = copy.deepcopy(value)
            for table, price_list in [(EMPTY, NOTHING), (FULL, EACH)]:
                with self.assertRaises(BadProperty) as caught:
                    cheapest(table, price_list, value)
                self.assertIs(caught.exception.word, value)
                with self.assertRaises(BadProperty):
                    cheapest(word=value, table=table, price_list=price_list)
            self.assertTrue(same(before, value))


if __name__ == "__main__":
    unittest.main()
