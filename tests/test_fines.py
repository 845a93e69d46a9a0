"""Points [15] to [19]: the cost with fines, what is reached, and the moats."""

import unittest
from random import Random

from moatways.fines import fine_moats, fined, reach
from tests.helper import (
    EXAMPLE,
    FineTicks,
    choices,
    cost_of,
    fine_cost,
    fine_tasks,
    tied_tasks,
    whole,
)


class Fined(unittest.TestCase):
    def test_one_place(self):
        self.assertEqual(fined((1, ()), 0, (7,), ()), 0)

    def test_the_empty_choice(self):
        self.assertEqual(fined(EXAMPLE, 0, (1, 20, 300, 4000), ()), 4320)
        self.assertEqual(fined(EXAMPLE, 2, (1, 20, 300, 4000), ()), 4021)

    def test_all_ways(self):
        self.assertEqual(fined(EXAMPLE, 1, (1, 20, 300, 4000), (0, 1, 2, 3)), 32)
        parts = (4, ((0, 1, 5), (2, 3, 6)))
        self.assertEqual(fined(parts, 0, (100, 200, 300, 400), (0, 1)), 711)
        self.assertEqual(fined(parts, 3, (100, 200, 300, 400), (0, 1)), 311)

    def test_ways_that_do_not_lead_to_the_root_cost_all_the_same(self):
        self.assertEqual(fined(EXAMPLE, 0, (1, 20, 300, 4000), (1,)), 4324)
        self.assertEqual(fined(EXAMPLE, 0, (1, 20, 300, 4000), (0, 2)), 4308)

    def test_the_fine_of_the_root_is_never_paid(self):
        for choice in choices(EXAMPLE):
            for root in range(4):
                fines = [5, 60, 700, 8000]
                paid = fined(EXAMPLE, root, tuple(fines), choice)
                fines[root] = 0
                self.assertEqual(fined(EXAMPLE, root, tuple(fines), choice), paid)

    def test_all_choices(self):
        for net, root, fines in fine_tasks(60, 51):
            for choice in choices(net):
                self.assertEqual(
                    fined(net, root, fines, choice), fine_cost(net, root, fines, choice)
                )

    def test_drawn_choices(self):
        chance = Random(52)
        for net, root, fines in fine_tasks(200, 53, 10000, 10000):
            ways = range(len(net[1]))
            choice = tuple(sorted(chance.sample(ways, chance.randint(0, len(ways)))))
            self.assertEqual(
                fined(net, root, fines, choice), fine_cost(net, root, fines, choice)
            )


class Reach(unittest.TestCase):
    def check(self, net, root, fines, reached, paper):
        self.assertEqual(reach(net, root, fines), reached)
        self.assertEqual(fine_moats(net, root, fines), paper)

    def test_one_place(self):
        self.check((1, ()), 0, (0,), ((), ()), ())
        self.check((1, ()), 0, (10000,), ((), ()), ())

    def test_a_place_whose_fine_is_below_the_cost_is_left(self):
        net = (2, ((0, 1, 4),))
        self.check(net, 0, (9, 3), ((), (1,)), (((1,), whole(3)),))
        self.check(net, 1, (3, 9), ((), (0,)), (((0,), whole(3)),))

    def test_a_place_whose_fine_is_above_the_cost_is_reached(self):
        net = (2, ((0, 1, 4),))
        self.check(net, 0, (9, 5), ((0,), ()), (((1,), whole(4)),))
        self.check(net, 1, (10000, 0), ((0,), ()), (((0,), whole(4)),))

    def test_a_place_that_is_tight_when_its_way_is_full_is_not_noted(self):
        net = (2, ((0, 1, 4),))
        self.check(net, 0, (9, 4), ((0,), ()), (((1,), whole(4)),))

    def test_the_ways_lead_to_several_places(self):
        # At time 2 ways 1 and 2 are full; the three places grow on as one group.
        self.check(
            EXAMPLE, 0, (0, 5, 5, 5), ((0, 1, 2), ()),
            (((1,), whole(2)), ((1, 2, 3), whole(2)), ((2,), whole(2)), ((3,), whole(2))),
        )

    def test_times_that_are_no_whole_numbers(self):
        net = (3, ((0, 1, 9), (1, 2, 3)))
        self.check(
            net, 0, (0, 2, 2), ((), (1, 2)),
            (((1,), (3, 2)), ((1, 2), whole(1)), ((2,), (3, 2))),
        )

    def test_a_group_in_another_part_is_left(self):
        # Way 1 is taken, but it does not lie in the group of the root.
        net = (4, ((0, 1, 2), (2, 3, 2)))
        self.check(
            net, 0, (5, 5, 5, 5), ((0,), (2, 3)),
            (((1,), whole(2)), ((2,), whole(1)), ((2, 3), whole(8)), ((3,), whole(1))),
        )
        self.check(net, 3, (5, 0, 5, 5), ((1,), (0, 1)), (
            ((0,), whole(2)), ((0, 1), whole(3)), ((2,), whole(2)),
        ))

    def test_without_ways_the_moats_are_as_wide_as_the_fines(self):
        self.check(
            (3, ()), 1, (10000, 10000, 10000), ((), (0, 2)),
            (((0,), whole(10000)), ((2,), whole(10000))),
        )

    def test_places_that_come_to_be_tight_are_cut_off(self):
        # Place 2 is tight at time 1; place 1 comes to it at time 2 and to the root at time 9.
        net = (3, ((0, 1, 9), (1, 2, 3)))
        self.check(
            net, 0, (0, 20, 1), ((0,), (2,)),
            (((1,), whole(2)), ((1, 2), whole(7)), ((2,), whole(1))),
        )

    def test_a_place_with_the_fine_0_is_noted_at_time_0(self):
        # Place 2 is joined to place 1, but a fine of 0 is not worth its way.
        net = (3, ((0, 1, 10), (1, 2, 2)))
        self.check(
            net, 0, (0, 99, 0), ((0,), (2,)), (((1,), whole(2)), ((1, 2), whole(8)))
        )
        # At the same time as it comes to the root.
        net = (3, ((0, 1, 3), (1, 2, 3)))
        self.check(net, 0, (0, 9, 0), ((0,), (2,)), (((1,), whole(3)),))

    def test_a_noted_group_through_which_ways_lead_is_not_cut_off(self):
        net = (3, ((0, 1, 3), (1, 2, 3)))
        self.check(
            net, 0, (0, 0, 9), ((0, 1), ()), (((1, 2), whole(3)), ((2,), whole(3)))
        )

    def test_a_group_is_cut_off_behind_another_one(self):
        # The note of place 2 is before that of place 3, which is cut off first.
        net = (4, ((0, 1, 8), (1, 2, 3), (2, 3, 3)))
        self.check(
            net, 0, (0, 9, 0, 0), ((0,), (2, 3)),
            (((1,), whole(3)), ((1, 2), whole(3)), ((1, 2, 3), whole(2))),
        )

    def test_a_cut_off_group_takes_its_inner_ways_with_it(self):
        # The group (2, 3) is tight at time 2 and place 1 comes to it at time 5.
        net = (4, ((0, 1, 9), (1, 2, 7), (2, 3, 2)))
        self.check(
            net, 0, (0, 30, 2, 2), ((0,), (2, 3)),
            (((1,), whole(4)), ((1, 2, 3), whole(5)), ((2,), whole(1)),
             ((2, 3), whole(2)), ((3,), whole(1))),
        )

    def test_a_group_with_the_rest_0_is_noted_before_it_joins_another_one(self):
        # At time 2 all is full and tight: the group (1, 2) comes into being first.
        net = (3, ((1, 2, 4), (0, 1, 2)))
        paper = (((1,), whole(2)), ((2,), whole(2)))
        self.check(net, 0, (0, 2, 2), ((), (1, 2)), paper)
        # With the ways in the other order it never does.
        net = (3, ((0, 1, 2), (1, 2, 4)))
        self.check(net, 0, (0, 2, 2), ((0, 1), ()), paper)

    def test_a_place_that_joins_another_one_when_it_is_tight_is_not_noted(self):
        # Place 2 is tight at time 1, when it joins place 1, which has some rest.
        net = (3, ((0, 1, 5), (1, 2, 2)))
        self.check(
            net, 0, (0, 9, 1), ((0, 1), ()),
            (((1,), whole(1)), ((1, 2), whole(4)), ((2,), whole(1))),
        )

    def test_a_group_elsewhere_is_noted_when_ways_are_taken(self):
        # At time 2 place 3 is tight while way 1 is taken; its way comes at time 6.
        net = (4, ((0, 1, 6), (1, 2, 4), (1, 3, 8)))
        self.check(
            net, 0, (0, 9, 9, 2), ((0, 1), (3,)),
            (((1,), whole(2)), ((1, 2), whole(4)), ((2,), whole(2)), ((3,), whole(2))),
        )

    def test_a_group_that_is_not_tight_any_more_stays_noted(self):
        # Place 3 is tight at time 1 and goes on to grow as part of (2, 3) at time 2.
        net = (4, ((0, 2, 6), (0, 1, 5), (2, 3, 3)))
        self.check(
            net, 0, (0, 1, 9, 1), ((0,), (1, 3)),
            (((1,), whole(1)), ((2,), whole(2)), ((2, 3), whole(4)), ((3,), whole(1))),
        )

    def test_all_fines_0(self):
        for root in range(4):
            others = tuple(place for place in range(4) if place != root)
            self.check(EXAMPLE, root, (0, 0, 0, 0), ((), others), ())

    def test_all_fines_10000(self):
        for root in range(4):
            self.assertEqual(reach(EXAMPLE, root, (10000,) * 4), ((0, 1, 2), ()))

    def test_of_several_ways_between_two_places_the_cheapest_is_taken(self):
        net = (2, ((0, 1, 8), (0, 1, 5), (0, 1, 5)))
        self.check(net, 0, (0, 9), ((1,), ()), (((1,), whole(5)),))

    def test_the_choice_and_the_places_are_in_ascending_order(self):
        net = (12, tuple((0, place, 30 - 2 * place) for place in range(1, 12)))
        fines = (0,) + tuple(40 - 5 * place for place in range(1, 9)) + (0, 13, 0)
        choice, left = reach(net, 0, fines)
        self.assertEqual(choice, (0, 1, 2, 9))
        self.assertEqual(left, (4, 5, 6, 7, 8, 9, 11))


class AgainstSmallSteps(unittest.TestCase):
    def check(self, net, root, fines):
        steps = FineTicks(net, root, fines)
        reached = reach(net, root, fines)
        self.assertEqual(reached, steps.reach(lambda loose: loose[0]))
        self.assertEqual(fine_moats(net, root, fines), steps.moats())
        return steps, reached

    def test_drawn_tasks(self):
        seen = {"met": 0, "born": 0, "noted": 0, "cut": 0, "left": 0, "all": 0}
        tasks = fine_tasks(200, 54) + fine_tasks(150, 55, 2, 3) + tied_tasks(300, 56)
        for net, root, fines in tasks:
            steps, (choice, left) = self.check(net, root, fines)
            seen["met"] += steps.met
            seen["born"] += steps.born
            seen["noted"] += len(steps.notes) > 0
            seen["cut"] += len(choice) < len(steps.first_kept())
            seen["left"] += left != ()
            seen["all"] += left == ()
        self.assertGreater(min(seen.values()), 30)

    def test_each_root(self):
        for net, _, fines in fine_tasks(50, 57):
            for root in range(net[0]):
                self.check(net, root, fines)

    def test_in_another_order_the_same_ways_are_left(self):
        chance = Random(58)
        for net, root, fines in fine_tasks(50, 59, 3, 4) + tied_tasks(150, 62):
            steps = FineTicks(net, root, fines)
            reached = reach(net, root, fines)
            for _ in range(3):
                self.assertEqual(reached, steps.reach(chance.choice))

    def test_the_choice_is_joined_with_the_root(self):
        for net, root, fines in fine_tasks(200, 60, 4, 9):
            choice, left = reach(net, root, fines)
            self.assertEqual(
                fine_cost(net, root, fines, choice),
                cost_of(net, choice) + sum(fines[place] for place in left),
            )
            self.assertEqual(choice, tuple(sorted(set(choice))))
            self.assertEqual(len(choice), net[0] - len(left) - 1)

    def test_the_fine_of_the_root_does_not_matter(self):
        for net, root, fines in fine_tasks(100, 61):
            for own in (0, 1, 5, 10000):
                other = fines[:root] + (own,) + fines[root + 1:]
                self.assertEqual(reach(net, root, other), reach(net, root, fines))
                self.assertEqual(fine_moats(net, root, other), fine_moats(net, root, fines))


class BeyondTheLimits(unittest.TestCase):
    def test_more_places_ways_and_greater_fines_raise_nothing(self):
        net = (14, tuple((place, place + 1, 10001) for place in range(13)) * 2)
        self.assertEqual(reach(net, 0, (20000,) * 14), (tuple(range(13)), ()))
        self.assertEqual(fined(net, 0, (20000,) * 14, ()), 260000)

    def test_a_way_that_costs_nothing_is_full_at_time_0(self):
        # The places with the fine 0 are noted before it is taken.
        net = (2, ((0, 1, 0),))
        self.assertEqual(reach(net, 0, (0, 5)), ((0,), ()))
        self.assertEqual(reach(net, 0, (0, 0)), ((), (1,)))
