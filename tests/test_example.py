"""Point [23]: the example."""

import unittest

from moatways.growths import growth, moats, moments, told
from moatways.least import least_price
from moatways.nets import joins, price, spare
from moatways.papers import is_paper, worth
from moatways.texts import read_task, write_task
from moatways.yard import Yard
from tests.helper import choices

NET = (4, ((0, 1, 4), (1, 2, 4), (2, 3, 4), (0, 3, 20)))
PAIRS = ((0, 2), (1, 3))
MOATS = (((0,), (2, 1)), ((1,), (2, 1)), ((2,), (2, 1)), ((3,), (2, 1)))


class Example(unittest.TestCase):
    def test_the_growth(self):
        self.assertEqual(growth(NET, PAIRS), (((2, 1), 0), ((2, 1), 1), ((2, 1), 2)))

    def test_the_moments(self):
        alone = ((0,), (1,), (2,), (3,))
        self.assertEqual(
            moments(NET, PAIRS),
            (((0, 1), alone, alone), ((2, 1), ((0, 1, 2, 3),), ())),
        )

    def test_the_moats(self):
        self.assertEqual(moats(NET, PAIRS), MOATS)
        self.assertIs(is_paper(NET, PAIRS, MOATS), True)
        self.assertEqual(worth(MOATS), (8, 1))

    def test_the_told_ways(self):
        self.assertEqual(told(NET, PAIRS), (0, 1, 2))
        self.assertEqual(price(NET, (0, 1, 2)), 12)
        self.assertIs(joins(NET, PAIRS, (0, 1, 2)), True)
        self.assertIsNone(spare(NET, PAIRS, (0, 1, 2)))

    def test_no_choice_costs_less(self):
        for choice in choices(NET):
            if joins(NET, PAIRS, choice):
                self.assertGreaterEqual(price(NET, choice), 8)

    def test_the_least_price(self):
        self.assertEqual(least_price(NET, PAIRS), 12)

    def test_in_a_yard_and_as_a_text(self):
        yard = Yard(4)
        for a, b, cost in NET[1]:
            yard.build(a, b, cost)
        for a, b in PAIRS:
            yard.want(a, b)
        self.assertEqual(yard.task(), (NET, PAIRS))
        self.assertEqual(yard.told(), (0, 1, 2))
        self.assertEqual(read_task(write_task(NET, PAIRS)), (NET, PAIRS))
