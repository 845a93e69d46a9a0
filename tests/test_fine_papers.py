"""Point [18]: the judge of papers for a task with fines."""

import unittest
from fractions import Fraction
from random import Random

from moatways.papers import is_fine_paper, worth
from tests.helper import as_fraction, as_ratio, choices, connected, cost_of, small_tasks, whole

TINY = (1, 10 ** 9)
# Wide ways and a fine everywhere, so that only the other rules can be broken by small widths.
WIDE = (4, ((0, 1, 1000), (1, 2, 1000), (2, 3, 1000)))
FINES = (9, 3, 4, 5)
NET = (4, ((0, 1, 4), (1, 2, 4), (2, 3, 4), (0, 3, 20)))
# Ways 0 and 2 are full with these.
PAPER = (
    ((1,), (1, 1)),
    ((1, 2), (2, 1)),
    ((1, 2, 3), (1, 1)),
    ((2,), (1, 1)),
    ((3,), (1, 1)),
)


class FinePapers(unittest.TestCase):
    def yes(self, net, root, fines, paper):
        self.assertIs(is_fine_paper(net, root, fines, paper), True)

    def no(self, net, root, fines, paper):
        self.assertIs(is_fine_paper(net, root, fines, paper), False)

    def test_a_paper(self):
        self.yes(NET, 0, (0, 5, 5, 5), PAPER)

    def test_the_empty_paper(self):
        self.yes(NET, 0, (0, 5, 5, 5), ())
        self.yes((1, ()), 0, (0,), ())

    def test_the_order_of_the_moats_is_free(self):
        self.yes(NET, 0, (0, 5, 5, 5), PAPER[::-1])
        self.yes(NET, 0, (0, 5, 5, 5), PAPER[3:] + PAPER[:3])

    def test_an_empty_set(self):
        self.no(WIDE, 0, FINES, (((), TINY),))
        self.no(WIDE, 0, FINES, (((1,), TINY), ((), TINY)))

    def test_a_set_that_is_not_in_ascending_order(self):
        self.yes(WIDE, 0, FINES, (((1, 2), TINY),))
        self.no(WIDE, 0, FINES, (((2, 1), TINY),))
        self.no(WIDE, 0, FINES, (((1, 3, 2), TINY),))

    def test_a_set_with_a_place_twice(self):
        self.no(WIDE, 0, FINES, (((1, 1), TINY),))
        self.no(WIDE, 0, FINES, (((1, 2, 2), TINY),))

    def test_a_place_that_the_net_does_not_have(self):
        self.yes(WIDE, 0, FINES, (((3,), TINY),))
        self.no(WIDE, 0, FINES, (((3, 4), TINY),))
        self.no(WIDE, 0, FINES, (((4,), TINY),))
        self.no(WIDE, 0, FINES, (((-1, 1), TINY),))
        self.no(WIDE, 0, FINES, (((-1,), TINY),))

    def test_widths_of_0_or_below(self):
        self.yes(WIDE, 0, FINES, (((1,), TINY),))
        self.no(WIDE, 0, FINES, (((1,), (0, 1)),))
        self.no(WIDE, 0, FINES, (((1,), (-1, 10 ** 9)),))
        self.no(WIDE, 0, FINES, (((1,), (-1, 1)), ((1, 2), whole(8))))

    def test_the_same_set_twice(self):
        self.no(WIDE, 0, FINES, (((1,), TINY), ((1,), TINY)))
        self.no(WIDE, 0, FINES, (((1, 2), TINY), ((3,), TINY), ((1, 2), whole(1))))

    def test_a_moat_with_the_root_within_it(self):
        self.no(WIDE, 0, FINES, (((0,), TINY),))
        self.no(WIDE, 0, FINES, (((0, 1), TINY),))
        self.no(WIDE, 2, FINES, (((1,), TINY), ((1, 2, 3), TINY)))
        self.yes(WIDE, 3, FINES, (((0,), TINY), ((0, 1), TINY)))

    def test_moats_that_cut_each_other(self):
        self.no(WIDE, 0, FINES, (((1, 2), TINY), ((2, 3), TINY)))
        self.no(WIDE, 0, FINES, (((1, 3), TINY), ((2,), TINY), ((1, 2), TINY)))

    def test_moats_within_and_beside_each_other(self):
        self.yes(WIDE, 0, FINES, (((1, 2), TINY), ((1,), TINY), ((1, 2, 3), TINY)))
        self.yes(WIDE, 0, FINES, (((1, 3), TINY), ((2,), TINY)))
        self.yes(WIDE, 0, FINES, (((2,), TINY), ((1, 2, 3), TINY), ((1, 3), TINY)))

    def test_a_way_whose_moats_are_too_wide(self):
        for at in range(5):
            places, width = PAPER[at]
            more = as_ratio(as_fraction(width) + as_fraction(TINY))
            self.no(NET, 0, (0, 5, 5, 5), PAPER[:at] + ((places, more),) + PAPER[at + 1:])

    def test_a_way_whose_moats_are_just_as_wide_as_its_cost(self):
        net = (3, ((0, 1, 9), (0, 2, 9), (1, 2, 3)))
        self.yes(net, 0, (0, 9, 9), (((1,), (4, 3)), ((2,), (5, 3))))
        self.no(net, 0, (0, 9, 9), (((1,), (4, 3)), ((2,), (5000001, 3000000))))
        self.yes(net, 0, (0, 9, 9), (((1, 2), whole(9)),))

    def test_a_moat_that_is_wider_than_the_fines(self):
        self.yes(WIDE, 0, FINES, (((1,), whole(3)),))
        self.no(WIDE, 0, FINES, (((1,), (3 * 10 ** 9 + 1, 10 ** 9)),))
        self.yes(WIDE, 0, FINES, (((1, 3), whole(8)),))
        self.no(WIDE, 0, FINES, (((1, 3), (8 * 10 ** 9 + 1, 10 ** 9)),))
        self.no(WIDE, 0, (9, 0, 4, 5), (((1,), TINY),))

    def test_the_moats_within_a_moat_count_for_its_fines(self):
        self.yes(WIDE, 0, FINES, (((1,), whole(3)), ((1, 2), whole(4))))
        self.no(WIDE, 0, FINES, (((1,), whole(3)), ((1, 2), (4 * 10 ** 9 + 1, 10 ** 9))))
        self.no(WIDE, 0, FINES, (((1, 2), (4 * 10 ** 9 + 1, 10 ** 9)), ((1,), whole(3))))
        full = (((1,), whole(3)), ((1, 2), whole(3)), ((1, 2, 3), whole(6)))
        self.yes(WIDE, 0, FINES, full)
        self.no(WIDE, 0, FINES, full + (((2,), TINY),))
        self.no(WIDE, 0, FINES, full + (((3,), TINY),))

    def test_a_moat_beside_or_around_does_not_count_for_the_fines(self):
        self.yes(WIDE, 0, FINES, (((1,), whole(3)), ((2,), whole(4)), ((3,), whole(5))))
        self.yes(WIDE, 0, FINES, (((1,), whole(1)), ((1, 2, 3), whole(11))))

    def test_the_fine_of_the_root_counts_for_nothing(self):
        self.yes(WIDE, 0, (0, 3, 4, 5), (((1,), whole(3)),))

    def test_against_the_document(self):
        chance = Random(15)
        answers = {True: 0, False: 0}
        for net, _ in small_tasks(1500, 16):
            root = chance.randrange(net[0])
            fines = tuple(chance.randint(0, 6) for _ in range(net[0]))
            paper = some_paper(chance, net)
            expected = judged(net, root, fines, paper)
            answers[expected] += 1
            self.assertIs(is_fine_paper(net, root, fines, paper), expected)
            if expected:
                self.check_no_choice_costs_less(net, root, fines, paper)
        self.assertGreater(min(answers.values()), 200)

    def check_no_choice_costs_less(self, net, root, fines, paper):
        least = as_fraction(worth(paper))
        for choice in choices(net):
            reached = connected(net, choice, root)
            left = sum(fine for place, fine in enumerate(fines) if place not in reached)
            self.assertGreaterEqual(cost_of(net, choice) + left, least)


def some_paper(chance, net):
    rows = []
    for _ in range(chance.randint(0, 4)):
        size = chance.randint(1, min(3, net[0]))
        places = sorted(chance.sample(range(net[0]), size))
        if chance.randint(0, 9) == 0:
            places = places[::-1]
        rows.append((tuple(places), as_ratio(Fraction(chance.randint(1, 9), 4))))
    return tuple(rows)


def judged(net, root, fines, paper):
    places, ways = net
    for own, width in paper:
        good = own and list(own) == sorted(set(own)) and set(own) <= set(range(places))
        if not good or as_fraction(width) <= 0 or root in own:
            return False
        inner = [as_fraction(other[1]) for other in paper if set(other[0]) <= set(own)]
        if sum(inner) > sum(fines[place] for place in own):
            return False
    sets = [set(own) for own, _ in paper]
    for at, one in enumerate(sets):
        for other in sets[:at]:
            if one == other or not (one <= other or other <= one or not one & other):
                return False
    for a, b, cost in ways:
        crossed = [as_fraction(width) for own, width in paper if len({a, b} & set(own)) == 1]
        if sum(crossed) > cost:
            return False
    return True
