"""Points [4], [5] and [6]: nets, groups, joins, price, spare."""

import unittest

from moatways.nets import groups, joins, price, spare
from tests.helper import (
    choices,
    connected,
    cost_of,
    every_pair_connected,
    small_tasks,
)

ALONE = (1, ())
# Ways 0 and 3 lie between the same two places, and ways 0, 1 and 2 make a ring.
RING = (5, ((0, 1, 4), (1, 2, 5), (0, 2, 6), (0, 1, 1), (3, 4, 9)))


class Groups(unittest.TestCase):
    def test_one_place_without_ways(self):
        self.assertEqual(groups(ALONE, ()), ((0,),))

    def test_no_way_chosen(self):
        self.assertEqual(groups(RING, ()), ((0,), (1,), (2,), (3,), (4,)))

    def test_some_ways(self):
        self.assertEqual(groups(RING, (0,)), ((0, 1), (2,), (3,), (4,)))
        self.assertEqual(groups(RING, (1, 4)), ((0,), (1, 2), (3, 4)))
        self.assertEqual(groups(RING, (2, 4)), ((0, 2), (1,), (3, 4)))

    def test_several_ways_between_two_places(self):
        self.assertEqual(groups(RING, (0, 3)), ((0, 1), (2,), (3,), (4,)))

    def test_a_ring(self):
        self.assertEqual(groups(RING, (0, 1, 2, 3, 4)), ((0, 1, 2), (3, 4)))

    def test_the_order_goes_by_first_places(self):
        net = (6, ((2, 5, 1), (1, 4, 1), (0, 3, 1)))
        self.assertEqual(groups(net, (0, 1, 2)), ((0, 3), (1, 4), (2, 5)))
        self.assertEqual(groups(net, (0,)), ((0,), (1,), (2, 5), (3,), (4,)))

    def test_a_group_that_is_joined_late(self):
        net = (6, ((4, 5, 1), (2, 3, 1), (3, 4, 1), (0, 5, 1)))
        self.assertEqual(groups(net, (0, 1, 2, 3)), ((0, 2, 3, 4, 5), (1,)))

    def test_against_walking(self):
        for net, _ in small_tasks(40, 5):
            for choice in choices(net):
                walked = {connected(net, choice, place) for place in range(net[0])}
                self.assertEqual(groups(net, choice), tuple(sorted(walked)))


class Joins(unittest.TestCase):
    def test_no_pairs(self):
        self.assertIs(joins(ALONE, (), ()), True)
        self.assertIs(joins(RING, (), ()), True)
        self.assertIs(joins(RING, (), (0, 4)), True)

    def test_no_way_chosen(self):
        self.assertIs(joins(RING, ((0, 1),), ()), False)

    def test_each_pair_counts(self):
        self.assertIs(joins(RING, ((0, 2), (3, 4)), (0, 1, 4)), True)
        self.assertIs(joins(RING, ((0, 2), (3, 4)), (0, 1)), False)
        self.assertIs(joins(RING, ((0, 2), (3, 4)), (0, 4)), False)

    def test_places_of_different_groups(self):
        self.assertIs(joins(RING, ((0, 1), (3, 4)), (0, 4)), True)
        self.assertIs(joins(RING, ((0, 3),), (0, 4)), False)

    def test_against_walking(self):
        for net, pairs in small_tasks(40, 6):
            for choice in choices(net):
                self.assertIs(
                    joins(net, pairs, choice), every_pair_connected(net, pairs, choice)
                )


class Price(unittest.TestCase):
    def test_no_way_chosen(self):
        self.assertEqual(price(ALONE, ()), 0)
        self.assertEqual(price(RING, ()), 0)

    def test_the_sum(self):
        self.assertEqual(price(RING, (4,)), 9)
        self.assertEqual(price(RING, (0, 3)), 5)
        self.assertEqual(price(RING, (0, 1, 2, 3, 4)), 25)

    def test_all_choices(self):
        for choice in choices(RING):
            self.assertEqual(price(RING, choice), cost_of(RING, choice))


class Spare(unittest.TestCase):
    def test_a_ring(self):
        self.assertEqual(spare(RING, ((0, 2),), (0, 1, 2)), 0)
        self.assertEqual(spare(RING, ((0, 1), (1, 2)), (0, 1, 2)), 0)

    def test_the_first_spare_way_is_not_the_first_way(self):
        self.assertEqual(spare(RING, ((0, 2), (3, 4)), (1, 2, 4)), 1)
        self.assertEqual(spare(RING, ((1, 2),), (1, 4)), 4)
        self.assertEqual(spare(RING, ((0, 2),), (0, 1, 3)), 0)
        self.assertEqual(spare(RING, ((3, 4), (0, 2)), (2, 3, 4)), 3)

    def test_several_ways_between_two_places(self):
        self.assertEqual(spare(RING, ((0, 1),), (0, 3)), 0)
        self.assertIsNone(spare(RING, ((0, 1),), (3,)))

    def test_none(self):
        self.assertIsNone(spare(RING, ((0, 2), (3, 4)), (0, 1, 4)))
        self.assertIsNone(spare(RING, ((0, 2),), (2,)))
        self.assertIsNone(spare(ALONE, (), ()))
        self.assertIsNone(spare(RING, (), ()))

    def test_no_pairs(self):
        self.assertEqual(spare(RING, (), (2, 3)), 2)

    def test_against_the_document(self):
        for net, pairs in small_tasks(40, 7):
            for choice in choices(net):
                if every_pair_connected(net, pairs, choice):
                    self.assertEqual(
                        spare(net, pairs, choice), first_spare(net, pairs, choice)
                    )


def first_spare(net, pairs, choice):
    for at, way in enumerate(choice):
        if every_pair_connected(net, pairs, choice[:at] + choice[at + 1:]):
            return way
    return None


class BeyondTheLimits(unittest.TestCase):
    def test_more_places_and_ways_raise_nothing(self):
        net = (15, tuple((place, place + 1, 20000) for place in range(14)) * 2)
        every = tuple(range(28))
        self.assertEqual(groups(net, every), (tuple(range(15)),))
        self.assertEqual(price(net, every), 28 * 20000)
        self.assertIs(joins(net, tuple((0, b) for b in range(1, 9)), every), True)
        self.assertEqual(spare(net, ((0, 14),), every), 0)
