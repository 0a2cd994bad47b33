"""Point [4]: heaps."""

import copy
import itertools
import unittest

from shadebarriers.heaps import is_heap, reachable
from tests.values import ANY, booleans_for_integers, lists_for_tuples, same

HEAP = (2, ((1, None), (None, None), (0, 1)), ((0, 1), ()))


def empty_slots(width, objects):
    return ((None,) * width,) * objects


def reachable_once_more(heap):
    """What is reachable, by the words of the document: until nothing more is found."""
    _, slots, held = heap
    found = {number for thread in held for number in thread}
    while True:
        more = found | {entry for number in found for entry in slots[number] if entry is not None}
        if more == found:
            return tuple(sorted(found))
        found = more


class IsHeap(unittest.TestCase):
    def test_ordinary(self):
        self.assertIs(is_heap(HEAP), True)
        self.assertIs(is_heap(value=HEAP), True)

    def test_widths(self):
        for width in range(-1, 7):
            expected = 1 <= width <= 4
            self.assertIs(is_heap((width, empty_slots(max(width, 0), 2), ((0,),))), expected, width)
            self.assertIs(is_heap((width, (), ((),))), expected, width)

    def test_numbers_of_objects(self):
        for objects in range(16):
            for width in (1, 4):
                self.assertIs(is_heap((width, empty_slots(width, objects), ((),))), objects <= 12)

    def test_numbers_of_threads(self):
        for threads in range(8):
            self.assertIs(is_heap((1, (), ((),) * threads)), 1 <= threads <= 4)
            self.assertIs(is_heap((1, ((0,),), ((0,),) * threads)), 1 <= threads <= 4)

    def test_each_object_has_each_slot(self):
        for width in range(1, 5):
            for lengths in itertools.product(range(6), repeat=2):
                slots = tuple((None,) * length for length in lengths)
                self.assertIs(is_heap((width, slots, ((),))), lengths == (width, width))

    def test_slots_have_objects_of_the_heap(self):
        for entry in range(-3, 16):
            for objects in (1, 2, 12):
                slots = ((entry,),) + empty_slots(1, objects - 1)
                self.assertIs(is_heap((1, slots, ((),))), 0 <= entry < objects)

    def test_threads_hold_objects_of_the_heap(self):
        for number in range(-3, 16):
            for objects in (0, 1, 2, 12):
                heap = (1, empty_slots(1, objects), ((), (number,)))
                self.assertIs(is_heap(heap), 0 <= number < objects)

    def test_threads_are_ascending(self):
        for length in range(4):
            for held in itertools.product(range(3), repeat=length):
                heap = (1, empty_slots(1, 3), (held,))
                self.assertIs(is_heap(heap), held == tuple(sorted(set(held))), held)
        everything = tuple(range(12))
        self.assertIs(is_heap((1, empty_slots(1, 12), (everything,) * 4)), True)
        self.assertIs(is_heap((1, empty_slots(1, 12), (everything[::-1],))), False)

    def test_threads_hold_no_none(self):
        self.assertIs(is_heap((1, ((None,),), ((None,),))), False)
        self.assertIs(is_heap((1, ((None,),), (None,))), False)

    def test_any_value(self):
        for value in ANY:
            before = copy.deepcopy(value)
            self.assertIs(is_heap(value), False)
            self.assertTrue(same(before, value))

    def test_any_value_in_each_place(self):
        for value in ANY:
            number = isinstance(value, int) and not isinstance(value, bool)
            one = number and value in (0, 1)
            self.assertIs(is_heap((value, ((0,),), ((0,),))), number and value == 1)
            self.assertIs(is_heap((1, value, ((),))), same(value, ()) or same(value, ((0,),)))
            self.assertIs(is_heap((1, (value, (0,)), ((),))), same(value, (0,)))
            self.assertIs(is_heap((1, ((value,), (0,)), ((),))), one or value is None)
            self.assertIs(is_heap((1, ((0,),), value)), same(value, ((),)) or same(value, ((0,),)))
            self.assertIs(is_heap((1, ((0,),), ((0,), value))), same(value, ()) or same(value, (0,)))
            self.assertIs(is_heap((1, ((0,), (0,)), ((value,),))), one)
            self.assertIs(is_heap((1, ((0,),), ((0,),), value)), False)

    def test_too_short(self):
        for at in range(3):
            self.assertIs(is_heap(HEAP[:at]), False)

    def test_lists_in_place_of_tuples(self):
        wrong = lists_for_tuples(HEAP)
        self.assertEqual(len(wrong), 8)
        for value in wrong:
            self.assertIs(is_heap(value), False)

    def test_booleans_in_place_of_integers(self):
        for heap in (HEAP, (1, ((0,),), ((0,),))):
            self.assertIs(is_heap(heap), True)
            wrong = booleans_for_integers(heap)
            self.assertGreater(len(wrong), 2)
            for value in wrong:
                self.assertIs(is_heap(value), False)


class Reachable(unittest.TestCase):
    def test_all_heaps_of_three_objects(self):
        threads = [held for many in range(4) for held in itertools.combinations(range(3), many)]
        for entries in itertools.product((None, 0, 1, 2), repeat=3):
            for held in threads:
                heap = (1, tuple((entry,) for entry in entries), (held,))
                self.assertTrue(same(reachable(heap), reachable_once_more(heap)))

    def test_several_slots_and_threads(self):
        for first, second in itertools.product(itertools.product((None, 1, 2, 3), repeat=2), repeat=2):
            heap = (2, (first, second, (None, 2), (0, None)), ((), (0,), ()))
            self.assertEqual(reachable(heap), reachable_once_more(heap))
            heap = (2, (first, second, (None, 2), (0, None)), ((1,), (1, 3)))
            self.assertEqual(reachable(heap=heap), reachable_once_more(heap))

    def test_empty_heap_and_nothing_held(self):
        self.assertTrue(same(reachable((1, (), ((),))), ()))
        self.assertTrue(same(reachable((4, (), ((),) * 4)), ()))
        self.assertTrue(same(reachable((1, ((0,), (0,)), ((), ()))), ()))

    def test_held_by_the_last_of_four_threads(self):
        self.assertEqual(reachable((1, empty_slots(1, 12), ((), (), (), (11,)))), (11,))

    def test_last_of_four_slots(self):
        self.assertEqual(reachable((4, ((None, None, None, 1), (None,) * 4), ((0,),))), (0, 1))

    def test_chains_and_rings_of_twelve(self):
        chain = tuple((number + 1,) for number in range(11)) + ((None,),)
        ring = tuple(((number + 5) % 12,) for number in range(12))
        for number in range(12):
            self.assertEqual(reachable((1, chain, ((number,),))), tuple(range(number, 12)))
            self.assertEqual(reachable((1, ring, ((number,),))), tuple(range(12)))

    def test_ascending_however_they_are_found(self):
        for one, other in itertools.permutations(range(12), 2):
            slots = tuple((other if number == one else None,) for number in range(12))
            self.assertEqual(reachable((1, slots, ((one,),))), (min(one, other), max(one, other)))

    def test_object_in_its_own_slot(self):
        self.assertEqual(reachable((1, ((0,), (1,)), ((1,),))), (1,))

    def test_somewhat_beyond_the_limits(self):
        chain = tuple((number + 1, None, None, None, None) for number in range(14)) + ((None,) * 5,)
        self.assertEqual(reachable((5, chain, ((), (), (), (), (2,)))), tuple(range(2, 15)))

    def test_equal_calls_give_equal_results(self):
        self.assertEqual(reachable(HEAP), (0, 1))
        self.assertEqual(reachable(HEAP), (0, 1))
        self.assertEqual(HEAP, (2, ((1, None), (None, None), (0, 1)), ((0, 1), ())))


if __name__ == "__main__":
    unittest.main()
