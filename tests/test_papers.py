"""Point [11]: the judge of papers, and their worth."""

import unittest
from fractions import Fraction
from random import Random

from moatways.growths import moats
from moatways.papers import is_paper, worth
from tests.helper import (
    EXAMPLE,
    EXAMPLE_PAIRS,
    as_fraction,
    as_ratio,
    is_open,
    small_tasks,
    whole,
)

TINY = (1, 10 ** 9)
# Wide ways, so that only the other rules can be broken by small widths.
WIDE = (4, ((0, 1, 1000), (1, 2, 1000), (2, 3, 1000)))
PAPER = (((0,), (2, 1)), ((1,), (2, 1)), ((2,), (2, 1)), ((3,), (2, 1)))


class Papers(unittest.TestCase):
    def yes(self, net, pairs, paper):
        self.assertIs(is_paper(net, pairs, paper), True)

    def no(self, net, pairs, paper):
        self.assertIs(is_paper(net, pairs, paper), False)

    def test_the_paper_of_the_example(self):
        self.yes(EXAMPLE, EXAMPLE_PAIRS, PAPER)

    def test_the_empty_paper(self):
        self.yes(EXAMPLE, EXAMPLE_PAIRS, ())
        self.yes(EXAMPLE, (), ())
        self.yes((1, ()), (), ())

    def test_without_pairs_there_is_no_moat(self):
        self.no(WIDE, (), (((0,), TINY),))
        self.no((1, ()), (), (((0,), TINY),))

    def test_the_order_of_the_moats_is_free(self):
        self.yes(EXAMPLE, EXAMPLE_PAIRS, PAPER[::-1])
        self.yes(EXAMPLE, EXAMPLE_PAIRS, PAPER[2:] + PAPER[:2])

    def test_an_empty_set(self):
        self.no(WIDE, EXAMPLE_PAIRS, (((), TINY),))
        self.no(EXAMPLE, EXAMPLE_PAIRS, PAPER + (((), TINY),))

    def test_a_set_that_is_not_in_ascending_order(self):
        self.yes(WIDE, EXAMPLE_PAIRS, (((0, 1), TINY),))
        self.no(WIDE, EXAMPLE_PAIRS, (((1, 0), TINY),))
        self.yes(WIDE, ((0, 3),), (((0, 1, 2), TINY),))
        self.no(WIDE, ((0, 3),), (((0, 2, 1), TINY),))

    def test_a_set_with_a_place_twice(self):
        self.no(WIDE, EXAMPLE_PAIRS, (((0, 0), TINY),))
        self.no(WIDE, EXAMPLE_PAIRS, (((0, 1, 1), TINY),))

    def test_a_place_that_the_net_does_not_have(self):
        self.yes(WIDE, ((0, 3),), (((3,), TINY),))
        self.no(WIDE, ((0, 3),), (((3, 4), TINY),))
        self.no(WIDE, ((0, 3),), (((-1, 0), TINY),))
        self.no(WIDE, ((0, 3),), (((4,), TINY),))
        self.no(WIDE, ((0, 3),), (((-1,), TINY),))
        self.no((1, ()), (), (((1,), TINY),))

    def test_widths_of_0_or_below(self):
        self.yes(WIDE, EXAMPLE_PAIRS, (((0,), TINY),))
        self.no(WIDE, EXAMPLE_PAIRS, (((0,), (0, 1)),))
        self.no(WIDE, EXAMPLE_PAIRS, (((0,), (-1, 10 ** 9)),))
        self.no(WIDE, EXAMPLE_PAIRS, (((0,), whole(1)), ((1,), (0, 1))))

    def test_a_width_below_0_does_not_make_room(self):
        self.no(EXAMPLE, EXAMPLE_PAIRS, (((0,), whole(5)), ((0, 3), whole(-1))))

    def test_the_same_set_twice(self):
        self.no(WIDE, EXAMPLE_PAIRS, (((0,), TINY), ((0,), TINY)))
        self.no(WIDE, EXAMPLE_PAIRS, (((0, 1), TINY), ((2,), TINY), ((0, 1), whole(1))))

    def test_a_moat_without_a_place_of_a_pair(self):
        self.no(WIDE, ((0, 2),), (((1,), TINY),))
        self.no(WIDE, ((0, 2),), (((0,), TINY), ((1, 3), TINY)))

    def test_a_moat_with_both_places_of_a_pair(self):
        self.no(WIDE, ((0, 2),), (((0, 2), TINY),))
        self.no(WIDE, ((0, 2),), (((0, 1, 2, 3), TINY),))
        self.no(WIDE, EXAMPLE_PAIRS, (((0, 2), TINY),))

    def test_just_one_place_of_some_pair_is_enough(self):
        self.yes(WIDE, ((0, 2), (2, 3)), (((0, 2), TINY),))
        self.yes(WIDE, ((0, 2), (1, 3)), (((0, 1, 2), TINY),))

    def test_a_way_whose_moats_are_too_wide(self):
        more = (2 * 10 ** 9 + 1, 10 ** 9)
        for at in range(4):
            places = PAPER[at][0]
            self.no(EXAMPLE, EXAMPLE_PAIRS, PAPER[:at] + ((places, more),) + PAPER[at + 1:])

    def test_a_way_whose_moats_are_just_as_wide_as_its_cost(self):
        net = (2, ((0, 1, 3),))
        self.yes(net, ((0, 1),), (((0,), whole(3)),))
        self.yes(net, ((0, 1),), (((0,), (4, 3)), ((1,), (5, 3))))
        self.no(net, ((0, 1),), (((0,), (3 * 10 ** 9 + 1, 10 ** 9)),))
        self.no(net, ((0, 1),), (((0,), (4, 3)), ((1,), (5000001, 3000000))))

    def test_a_way_within_a_moat_or_outside_of_it_does_not_cross_it(self):
        net = (4, ((0, 1, 1), (2, 3, 1), (1, 2, 9)))
        self.yes(net, ((0, 2),), (((0, 1), whole(9)),))
        self.no(net, ((0, 2),), (((0, 1), (9 * 10 ** 9 + 1, 10 ** 9)),))

    def test_several_ways_between_two_places(self):
        net = (2, ((0, 1, 7), (0, 1, 3), (0, 1, 5)))
        self.yes(net, ((0, 1),), (((0,), whole(3)),))
        self.no(net, ((0, 1),), (((0,), (3 * 10 ** 9 + 1, 10 ** 9)),))

    def test_the_last_way_counts_too(self):
        net = (3, ((0, 1, 9), (0, 2, 9), (1, 2, 2)))
        self.yes(net, ((1, 2),), (((1,), whole(1)), ((2,), whole(1))))
        self.no(net, ((1, 2),), (((1,), whole(1)), ((2,), (1000001, 1000000))))

    def test_moats_may_cut_each_other(self):
        pairs = ((0, 3), (1, 2))
        self.yes(WIDE, pairs, (((0, 1), whole(1)), ((0, 2), whole(1)), ((1, 3), whole(1))))

    def test_without_ways_a_moat_may_be_as_wide_as_it_likes(self):
        self.yes((2, ()), ((0, 1),), (((0,), whole(10 ** 12)),))

    def test_against_the_document(self):
        chance = Random(13)
        answers = {True: 0, False: 0}
        for net, pairs in small_tasks(600, 14):
            paper = changed(chance, net, moats(net, pairs))
            expected = judged(net, pairs, paper)
            answers[expected] += 1
            self.assertIs(is_paper(net, pairs, paper), expected)
        self.assertGreater(min(answers.values()), 100)


def changed(chance, net, paper):
    """The paper with some small changes, so that it is a paper now and then."""
    rows = list(paper)
    for _ in range(chance.randint(0, 2)):
        what = chance.randint(0, 3)
        size = chance.randint(1, 2)
        places = tuple(chance.randint(0, net[0] - 1) for _ in range(size))
        if what == 0 or not rows:
            rows.append((places, as_ratio(Fraction(chance.randint(-1, 3), 2))))
        else:
            at = chance.randrange(len(rows))
            old, width = rows[at]
            if what == 1:
                rows[at] = (old, as_ratio(as_fraction(width) + Fraction(chance.randint(-2, 1), 3)))
            elif what == 2:
                rows[at] = (places, width)
            else:
                del rows[at]
    chance.shuffle(rows)
    return tuple(rows)


def judged(net, pairs, paper):
    places, ways = net
    for own, width in paper:
        good = own and list(own) == sorted(set(own)) and set(own) <= set(range(places))
        if not good or as_fraction(width) <= 0 or not is_open(own, pairs):
            return False
    if len(set(own for own, _ in paper)) < len(paper):
        return False
    for a, b, cost in ways:
        crossed = [as_fraction(width) for own, width in paper if len({a, b} & set(own)) == 1]
        if sum(crossed) > cost:
            return False
    return True


class Worth(unittest.TestCase):
    def test_the_empty_paper(self):
        self.assertEqual(worth(()), (0, 1))

    def test_the_sum(self):
        self.assertEqual(worth(PAPER), (8, 1))
        self.assertEqual(worth((((0,), (1, 2)), ((1,), (1, 3)))), (5, 6))
        self.assertEqual(worth((((0,), (7, 3)),)), (7, 3))

    def test_any_tuple(self):
        self.assertEqual(worth((((0,), (1, 2)), ((0,), (1, 2)))), (1, 1))
        self.assertEqual(worth((((), (-3, 2)), ((9, 9, 1), (1, 3)))), (-7, 6))
        self.assertEqual(worth((((0,), (0, 1)), ((1,), (-1, 1)))), (-1, 1))
