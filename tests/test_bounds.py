"""Points [12] and [13]: what a paper shows, on small nets with all their choices."""

import unittest
from fractions import Fraction

from moatways.growths import growth, moats, moments, told
from moatways.papers import is_paper, worth
from tests.helper import (
    as_fraction,
    choices,
    cost_of,
    every_pair_connected,
    small_tasks,
    whole,
)

TASKS = small_tasks(250, 17) + small_tasks(150, 18, 3) + small_tasks(100, 19, 40)


class Bounds(unittest.TestCase):
    def test_the_moats_are_a_paper(self):
        for net, pairs in TASKS:
            self.assertIs(is_paper(net, pairs, moats(net, pairs)), True)

    def test_no_choice_costs_less_than_the_paper(self):
        for net, pairs in TASKS:
            least = as_fraction(worth(moats(net, pairs)))
            for choice in choices(net):
                if every_pair_connected(net, pairs, choice):
                    self.assertGreaterEqual(cost_of(net, choice), least)

    def test_the_price_of_the_told_ways(self):
        for net, pairs in TASKS:
            paid = cost_of(net, told(net, pairs))
            shown = as_fraction(worth(moats(net, pairs)))
            if pairs:
                many = len({place for pair in pairs for place in pair})
                self.assertLessEqual(paid, (2 - Fraction(2, many)) * shown)
            else:
                self.assertEqual((paid, shown), (0, 0))

    def test_the_bound_is_met_where_two_places_are_joined(self):
        for net, pairs in TASKS:
            if len(pairs) == 1:
                paper = moats(net, pairs)
                self.assertEqual(worth(paper), whole(cost_of(net, told(net, pairs))))

    def test_why(self):
        for net, pairs in TASKS:
            choice = told(net, pairs)
            for _, _, rising in moments(net, pairs):
                leading = sum(
                    len({a, b} & set(group)) == 1
                    for group in rising
                    for a, b, _ in [net[1][way] for way in choice]
                )
                if rising:
                    self.assertLessEqual(leading, 2 * len(rising) - 2)

    def test_the_taken_ways_have_no_ring(self):
        for net, pairs in TASKS:
            taken = sorted(way for _, way in growth(net, pairs))
            for way in taken:
                rest = [other for other in taken if other != way]
                self.assertFalse(every_pair_connected(net, (net[1][way][:2],), rest))
