"""Points [7] and [14]: the least price."""

import unittest
from itertools import combinations
from random import Random

from moatways.errors import Apart
from moatways.growths import moats, told
from moatways.least import least_price
from moatways.papers import worth
from tests.helper import (
    EXAMPLE,
    EXAMPLE_PAIRS,
    as_fraction,
    choices,
    cost_of,
    every_pair_connected,
    some_net,
)


def tried(net, pairs):
    """The least price by a trial of all choices, the cheapest ones first, or None."""
    for choice in sorted(choices(net), key=lambda choice: cost_of(net, choice)):
        if every_pair_connected(net, pairs, choice):
            return cost_of(net, choice)
    return None


def first_apart(net, pairs):
    every = range(len(net[1]))
    for index, pair in enumerate(pairs):
        if not every_pair_connected(net, (pair,), every):
            return index
    return None


def cheapest_tree(net, places):
    """The price of the cheapest tree with just these places, or None."""
    homes = {place: place for place in places}
    total = 0
    for cost, a, b in sorted((cost, a, b) for a, b, cost in net[1]):
        if a in homes and b in homes and homes[a] != homes[b]:
            total += cost
            old = homes[b]
            homes.update({place: homes[a] for place in homes if homes[place] == old})
    return total if len(set(homes.values())) == 1 else None


def by_trees(net, pairs):
    """The least price by all sets of places as trees, and all ways to part the pairs."""
    best = {}
    for size in range(2, net[0] + 1):
        for places in combinations(range(net[0]), size):
            inner = frozenset(pair for pair in pairs if set(pair) <= set(places))
            if inner:
                total = cheapest_tree(net, places)
                if total is not None:
                    best[inner] = min(total, best.get(inner, total))
    least = {frozenset(): 0}
    for size in range(1, len(pairs) + 1):
        for wanted in combinations(pairs, size):
            wanted = frozenset(wanted)
            found = [
                total + least[wanted - inner] for inner, total in best.items() if inner & wanted
            ]
            if found:
                least[wanted] = min(found)
    return least[frozenset(pairs)]


class ByHand(unittest.TestCase):
    def check(self, net, pairs, price):
        self.assertEqual(least_price(net, pairs), price)

    def test_without_pairs(self):
        self.check((1, ()), (), 0)
        self.check(EXAMPLE, (), 0)
        self.check((3, ((0, 1, 5),)), (), 0)

    def test_one_pair(self):
        self.check((2, ((0, 1, 6),)), ((0, 1),), 6)
        self.check(EXAMPLE, ((0, 3),), 12)
        self.check((4, EXAMPLE[1][:3] + ((0, 3, 11),)), ((0, 3),), 11)
        self.check((2, ((0, 1, 10000),)), ((0, 1),), 10000)

    def test_the_example(self):
        self.check(EXAMPLE, EXAMPLE_PAIRS, 12)

    def test_several_ways_between_two_places(self):
        self.check((2, ((0, 1, 7), (0, 1, 3), (0, 1, 5))), ((0, 1),), 3)
        self.check((3, ((0, 1, 3), (0, 1, 7), (1, 2, 9), (1, 2, 8))), ((0, 2),), 11)

    def test_pairs_in_trees_of_their_own(self):
        net = (4, ((0, 1, 5), (1, 2, 9), (2, 3, 6)))
        self.check(net, ((0, 1), (2, 3)), 11)
        net = (6, ((0, 1, 1), (2, 3, 2), (4, 5, 4)))
        self.check(net, ((0, 1), (4, 5), (2, 3)), 7)

    def test_pairs_that_share_a_place_meet_in_a_place_of_none(self):
        star = ((0, 3, 2), (1, 3, 2), (2, 3, 2))
        ring = ((0, 1, 3), (1, 2, 4), (0, 2, 4))
        self.check((4, star + ring), ((0, 1), (0, 2)), 6)
        self.check((4, star + ring), ((0, 1),), 3)
        self.check((4, star + ring), ((0, 1), (1, 2), (0, 2)), 6)

    def test_two_pairs_that_share_only_a_middle_way(self):
        # Alone each pair would take its own way of 9; together the middle one pays.
        net = (
            6,
            ((0, 4, 2), (1, 5, 2), (2, 4, 2), (3, 5, 2), (4, 5, 6), (0, 1, 9), (2, 3, 9)),
        )
        self.check(net, ((0, 1),), 9)
        self.check(net, ((2, 3),), 9)
        self.check(net, ((0, 1), (2, 3)), 14)

    def test_two_of_three_pairs_in_one_tree(self):
        net = (
            8,
            ((0, 4, 2), (1, 5, 2), (2, 4, 2), (3, 5, 2), (4, 5, 6), (0, 1, 9), (2, 3, 9),
             (5, 6, 20), (6, 7, 3)),
        )
        for pairs in (((0, 1), (2, 3), (6, 7)), ((6, 7), (0, 1), (2, 3)), ((0, 1), (6, 7), (2, 3))):
            self.check(net, pairs, 17)

    def test_it_may_be_less_than_the_price_of_the_told_ways(self):
        # The ways between the four places are full before those to the place in the middle.
        middle = tuple((place, 4, 4) for place in range(4))
        net = (5, middle + ((0, 1, 6), (1, 2, 6), (2, 3, 6)))
        pairs = ((0, 1), (1, 2), (2, 3))
        self.assertEqual(cost_of(net, told(net, pairs)), 18)
        self.check(net, pairs, 16)


class ApartRaised(unittest.TestCase):
    def check(self, net, pairs, index):
        with self.assertRaises(Apart) as caught:
            least_price(net, pairs)
        self.assertEqual(caught.exception.index, index)

    def test_the_first_pair_that_is_not_joined(self):
        net = (6, ((0, 1, 3), (1, 2, 3), (3, 4, 3)))
        self.check((2, ()), ((0, 1),), 0)
        self.check(net, ((0, 3),), 0)
        self.check(net, ((0, 2), (0, 3)), 1)
        self.check(net, ((0, 2), (3, 4), (0, 5)), 2)
        self.check(net, ((0, 2), (2, 3), (0, 5)), 1)
        self.check(net, ((0, 5), (0, 2), (2, 3)), 0)


class Drawn(unittest.TestCase):
    def draw(self, chance, net, most_pairs=3):
        every = list(combinations(range(net[0]), 2))
        return tuple(chance.sample(every, min(len(every), chance.randint(0, most_pairs))))

    def test_against_a_trial_of_all_choices(self):
        chance = Random(41)
        seen = {"apart": 0, 0: 0, 1: 0, 2: 0, 3: 0}
        for _ in range(300):
            most = chance.choice((2, 6, 10000))
            net = some_net(chance, chance.randint(1, 7), chance.randint(0, 9), most)
            pairs = self.draw(chance, net)
            expected = tried(net, pairs)
            if expected is None:
                seen["apart"] += 1
                with self.assertRaises(Apart) as caught:
                    least_price(net, pairs)
                self.assertEqual(caught.exception.index, first_apart(net, pairs))
            else:
                seen[len(pairs)] += 1
                self.assertEqual(least_price(net, pairs), expected)
        self.assertGreater(min(seen.values()), 10)

    def test_pairs_that_share_a_place(self):
        chance = Random(42)
        for _ in range(60):
            net = some_net(chance, chance.randint(4, 7), 9, 9)
            middle = chance.randrange(net[0])
            others = chance.sample([place for place in range(net[0]) if place != middle], 3)
            pairs = tuple((min(middle, other), max(middle, other)) for other in others)
            expected = tried(net, pairs)
            if expected is not None:
                self.assertEqual(least_price(net, pairs), expected)

    def test_great_nets(self):
        chance = Random(43)
        for places in (10, 11, 12, 12, 12, 12):
            net = some_net(chance, places, 24, chance.choice((9, 10000)))
            pairs = self.draw(chance, net)
            while len(pairs) < 2 or first_apart(net, pairs) is not None:
                net = some_net(chance, places, 24, chance.choice((9, 10000)))
                pairs = self.draw(chance, net)
            self.assertEqual(least_price(net, pairs), by_trees(net, pairs))

    def test_between_the_worth_and_the_price_of_the_told_ways(self):
        chance = Random(44)
        done = 0
        while done < 100:
            net = some_net(chance, 12, 24, chance.choice((3, 100, 10000)))
            pairs = self.draw(chance, net)
            if first_apart(net, pairs) is None:
                done += 1
                least = least_price(net, pairs)
                self.assertLessEqual(least, cost_of(net, told(net, pairs)))
                self.assertGreaterEqual(least, as_fraction(worth(moats(net, pairs))))


class BeyondTheLimits(unittest.TestCase):
    def test_more_places_ways_and_pairs_raise_nothing(self):
        net = (14, tuple((place, place + 1, 10001 + place) for place in range(13)) * 2)
        self.assertEqual(
            least_price(net, ((0, 2), (5, 6), (8, 9), (1, 3))),
            sum(10001 + place for place in (0, 1, 2, 5, 8)),
        )

    def test_ways_that_cost_nothing(self):
        self.assertEqual(least_price((3, ((0, 1, 0), (1, 2, 0))), ((0, 2),)), 0)
