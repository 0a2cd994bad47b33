"""What points [11] and [12] count on: all least sets of marks that meet demands, each once."""

import itertools
import unittest

from shadebarriers.demands import demands_of, least_answers, unmet
from shadebarriers.judging import holds
from shadebarriers.marks import all_marks
from shadebarriers.properties import PROPERTIES
from tests.thrown import picks, thrown_table


def meets(marks, demands):
    return all(set(marks) & set(demand) for demand in demands)


def by_trying(demands, marks):
    """All least answers, by trying all sets of these marks."""
    found = set()
    for many in range(len(marks) + 1):
        for chosen in itertools.combinations(marks, many):
            if meets(chosen, demands) and not any(set(other) <= set(chosen) for other in found):
                found.add(chosen)
    return found


def thrown_demands(seed):
    """Some marks, and demands of one to four of them."""
    source = picks(seed)
    marks = sorted({all_marks()[next(source) % 120] for _ in range(8)})
    demands = []
    for _ in range(next(source) % 8):
        demand = {marks[next(source) % len(marks)] for _ in range(next(source) % 4 + 1)}
        demands.append(tuple(sorted(demand)))
    return marks, demands


class Demands(unittest.TestCase):
    def test_least_answers_by_trying(self):
        many = set()
        for seed in range(150):
            marks, demands = thrown_demands(seed)
            answers = [tuple(sorted(answer)) for answer in least_answers(demands)]
            self.assertEqual(len(answers), len(set(answers)), demands)
            self.assertEqual(set(answers), by_trying(demands, marks))
            many.add(len(answers))
        self.assertGreater(len(many), 6)

    def test_no_demands_and_one_that_cannot_be_met(self):
        self.assertEqual(least_answers([]), [[]])
        self.assertEqual(least_answers([()]), [])
        self.assertEqual(least_answers([(all_marks()[0],), ()]), [])

    def test_unmet(self):
        for seed in range(30):
            marks, demands = thrown_demands(seed)
            own = marks[:seed % 9]
            self.assertEqual(unmet(demands, own), [one for one in demands if not set(one) & set(own)])

    def test_a_property_holds_exactly_if_all_are_met(self):
        for seed in range(30):
            marks, rescans = thrown_table(seed)
            for word in PROPERTIES:
                self.assertIs(holds((marks, rescans), word), meets(marks, demands_of(word, rescans)))


if __name__ == "__main__":
    unittest.main()
