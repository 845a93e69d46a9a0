"""Points [7] to [10] and [13]: the growth, its moments, the told ways, the moats."""

import unittest

from moatways.errors import Apart
from moatways.growths import growth, moats, moments, told
from moatways.nets import joins, price, spare
from moatways.papers import worth
from tests.helper import Ticks, small_tasks, whole

ALL = (growth, moments, told, moats)


class ApartRaised(unittest.TestCase):
    def check(self, net, pairs, index):
        for function in ALL:
            with self.assertRaises(Apart) as caught:
                function(net, pairs)
            self.assertEqual(caught.exception.index, index)

    def test_the_first_pair(self):
        self.check((2, ()), ((0, 1),), 0)

    def test_the_first_of_several(self):
        net = (6, ((0, 1, 3), (1, 2, 3), (3, 4, 3)))
        self.check(net, ((0, 2), (3, 4), (2, 3), (0, 5)), 2)
        self.check(net, ((0, 5), (0, 2), (2, 3)), 0)

    def test_the_last_pair(self):
        net = (4, ((0, 1, 3), (1, 2, 3)))
        self.check(net, ((0, 2), (0, 1), (2, 3)), 2)

    def test_without_pairs_nothing_is_raised(self):
        net = (3, ((0, 1, 5),))
        self.assertEqual(growth(net, ()), ())
        self.assertEqual(moments(net, ()), (((0, 1), ((0,), (1,), (2,)), ()),))
        self.assertEqual(told(net, ()), ())
        self.assertEqual(moats(net, ()), ())

    def test_a_place_apart_that_belongs_to_no_pair(self):
        self.assertEqual(told((3, ((0, 1, 5),)), ((0, 1),)), (0,))


class Growth(unittest.TestCase):
    def test_one_place_without_ways(self):
        self.assertEqual(growth((1, ()), ()), ())
        self.assertEqual(moments((1, ()), ()), ((whole(0), ((0,),), ()),))
        self.assertEqual(told((1, ()), ()), ())
        self.assertEqual(moats((1, ()), ()), ())

    def test_one_way(self):
        net = (2, ((0, 1, 6),))
        self.assertEqual(growth(net, ((0, 1),)), ((whole(3), 0),))
        self.assertEqual(moats(net, ((0, 1),)), (((0,), whole(3)), ((1,), whole(3))))

    def test_a_time_that_is_no_whole_number(self):
        net = (2, ((0, 1, 7),))
        self.assertEqual(growth(net, ((0, 1),)), (((7, 2), 0),))
        self.assertEqual(moats(net, ((0, 1),)), (((0,), (7, 2)), ((1,), (7, 2))))

    def test_a_group_that_stays_half_open(self):
        # At 1/2 places 0 and 1 meet; way 1 lacks 2 then and grows from both sides.
        net = (4, ((0, 1, 1), (1, 2, 3), (2, 3, 10)))
        pairs = ((0, 2), (1, 3))
        self.assertEqual(growth(net, pairs), (((1, 2), 0), ((3, 2), 1), ((5, 1), 2)))
        self.assertEqual(
            moats(net, pairs),
            (
                ((0,), (1, 2)),
                ((0, 1), (1, 1)),
                ((0, 1, 2), (7, 2)),
                ((1,), (1, 2)),
                ((2,), (3, 2)),
                ((3,), (5, 1)),
            ),
        )

    def test_a_place_in_no_pair_does_not_grow(self):
        net = (3, ((0, 1, 4), (1, 2, 10)))
        self.assertEqual(growth(net, ((0, 2),)), ((whole(4), 0), (whole(7), 1)))
        self.assertEqual(
            moats(net, ((0, 2),)),
            (((0,), whole(4)), ((0, 1), whole(3)), ((2,), whole(7))),
        )

    def test_of_several_full_ways_the_least_index_is_taken_first(self):
        net = (3, ((1, 2, 4), (0, 2, 4), (0, 1, 4)))
        self.assertEqual(
            growth(net, ((0, 1), (1, 2))), ((whole(2), 0), (whole(2), 1))
        )
        net = (4, ((2, 3, 2), (1, 2, 2), (0, 3, 2), (0, 1, 2)))
        self.assertEqual(
            growth(net, ((0, 1), (2, 3))), ((whole(1), 0), (whole(1), 1), (whole(1), 2))
        )

    def test_several_ways_between_two_places(self):
        net = (2, ((0, 1, 8), (0, 1, 5), (0, 1, 5)))
        self.assertEqual(growth(net, ((0, 1),)), (((5, 2), 1),))
        self.assertEqual(told(net, ((0, 1),)), (1,))

    def test_a_full_way_is_taken_although_no_group_is_open_any_more(self):
        net = (3, ((0, 1, 4), (1, 2, 2)))
        pairs = ((0, 1),)
        self.assertEqual(growth(net, pairs), ((whole(2), 0), (whole(2), 1)))
        self.assertEqual(
            moments(net, pairs),
            (
                (whole(0), ((0,), (1,), (2,)), ((0,), (1,))),
                (whole(2), ((0, 1, 2),), ()),
            ),
        )
        self.assertEqual(told(net, pairs), (0,))
        self.assertEqual(moats(net, pairs), (((0,), whole(2)), ((1,), whole(2))))

    def test_no_way_is_taken_later_when_no_group_is_open(self):
        net = (3, ((0, 1, 4), (1, 2, 3)))
        self.assertEqual(growth(net, ((0, 1),)), ((whole(2), 0),))

    def test_a_group_is_open_again_as_part_of_another_one(self):
        net = (4, ((0, 1, 2), (0, 2, 6), (1, 3, 8)))
        pairs = ((0, 1), (2, 3))
        self.assertEqual(growth(net, pairs), ((whole(1), 0), (whole(5), 1), (whole(6), 2)))
        self.assertEqual(
            moments(net, pairs),
            (
                (whole(0), ((0,), (1,), (2,), (3,)), ((0,), (1,), (2,), (3,))),
                (whole(1), ((0, 1), (2,), (3,)), ((2,), (3,))),
                (whole(5), ((0, 1, 2), (3,)), ((0, 1, 2), (3,))),
                (whole(6), ((0, 1, 2, 3),), ()),
            ),
        )
        self.assertEqual(
            moats(net, pairs),
            (
                ((0,), whole(1)),
                ((0, 1, 2), whole(1)),
                ((1,), whole(1)),
                ((2,), whole(5)),
                ((3,), whole(6)),
            ),
        )

    def test_both_places_of_one_pair_and_one_of_another(self):
        # The group (0, 1) has a whole pair, but also one place of the pair (1, 2).
        net = (3, ((0, 1, 2), (1, 2, 6)))
        pairs = ((0, 1), (1, 2))
        self.assertEqual(growth(net, pairs), ((whole(1), 0), (whole(3), 1)))

    def test_against_small_steps(self):
        for net, pairs in small_tasks(400, 8):
            steps = Ticks(net, pairs)
            self.assertEqual(growth(net, pairs), tuple(steps.taken))
            self.assertEqual(moments(net, pairs), tuple(steps.moments))
            self.assertEqual(moats(net, pairs), steps.moats())


class Moments(unittest.TestCase):
    def test_the_moment_of_time_0(self):
        net = (3, ((0, 2, 5), (1, 2, 5)))
        self.assertEqual(
            moments(net, ((0, 2),))[0], (whole(0), ((0,), (1,), (2,)), ((0,), (2,)))
        )

    def test_several_ways_taken_at_one_time_are_one_moment(self):
        net = (5, ((0, 1, 4), (2, 3, 4), (3, 4, 6)))
        pairs = ((0, 1), (2, 3), (2, 4))
        self.assertEqual(
            moments(net, pairs),
            (
                (whole(0), ((0,), (1,), (2,), (3,), (4,)), ((0,), (1,), (2,), (3,), (4,))),
                (whole(2), ((0, 1), (2, 3), (4,)), ((2, 3), (4,))),
                (whole(3), ((0, 1), (2, 3, 4)), ()),
            ),
        )

    def test_the_groups_are_ordered_by_their_first_places(self):
        net = (4, ((0, 3, 2), (1, 2, 2), (2, 3, 8)))
        pairs = ((0, 1), (2, 3))
        self.assertEqual(
            moments(net, pairs),
            (
                (whole(0), ((0,), (1,), (2,), (3,)), ((0,), (1,), (2,), (3,))),
                (whole(1), ((0, 3), (1, 2)), ((0, 3), (1, 2))),
                (whole(4), ((0, 1, 2, 3),), ()),
            ),
        )

    def test_one_moment_for_each_time_with_taken_ways(self):
        for net, pairs in small_tasks(100, 9):
            times = [time for time, _ in growth(net, pairs)]
            later = [time for time, _, _ in moments(net, pairs)[1:]]
            self.assertEqual(later, [time for at, time in enumerate(times)
                                     if time not in times[:at]])


class Told(unittest.TestCase):
    def test_spare_ways_are_left_out(self):
        # Ways 0 and 2 lead to places that lie on no way from 1 to 4.
        net = (5, ((0, 1, 2), (1, 2, 4), (1, 3, 2), (2, 4, 4)))
        pairs = ((1, 4),)
        self.assertEqual(
            growth(net, pairs),
            ((whole(2), 0), (whole(2), 2), (whole(4), 1), (whole(4), 3)),
        )
        self.assertEqual(told(net, pairs), (1, 3))

    def test_the_choice_is_in_ascending_order(self):
        net = (3, ((0, 1, 8), (1, 2, 2)))
        pairs = ((0, 2),)
        self.assertEqual(growth(net, pairs), ((whole(2), 1), (whole(5), 0)))
        self.assertEqual(told(net, pairs), (0, 1))

    def test_it_joins_the_pairs_and_none_is_spare(self):
        for net, pairs in small_tasks(300, 10):
            choice = told(net, pairs)
            self.assertIs(joins(net, pairs, choice), True)
            self.assertIsNone(spare(net, pairs, choice))
            self.assertEqual(choice, tuple(sorted(set(choice))))
            taken = [way for _, way in growth(net, pairs)]
            self.assertTrue(set(choice) <= set(taken))

    def test_it_is_what_remains_of_the_taken_ways(self):
        for net, pairs in small_tasks(200, 12):
            kept = [way for _, way in growth(net, pairs)]
            for way in list(reversed(kept)):
                rest = [other for other in kept if other != way]
                if joins(net, pairs, tuple(sorted(rest))):
                    kept = rest
            self.assertEqual(told(net, pairs), tuple(sorted(kept)))


class Moats(unittest.TestCase):
    def test_moats_of_width_0_are_left_out(self):
        # At time 1 the open group (0, 1) comes and goes at once.
        net = (3, ((0, 1, 2), (1, 2, 2)))
        pairs = ((0, 2), (1, 2))
        self.assertEqual(
            moats(net, pairs), (((0,), whole(1)), ((1,), whole(1)), ((2,), whole(1)))
        )

    def test_the_order_goes_by_the_tuples_of_places(self):
        net = (12, tuple((place, place + 1, 4) for place in range(11)))
        pairs = ((0, 11), (2, 10))
        paper = moats(net, pairs)
        places = [moat[0] for moat in paper]
        self.assertEqual(places, sorted(places))
        self.assertIn((10, 11), places)
        self.assertLess(places.index((2,)), places.index((10,)))

    def test_no_pairs(self):
        self.assertEqual(moats((3, ((0, 1, 1), (1, 2, 1))), ()), ())
        self.assertEqual(worth(moats((3, ((0, 1, 1), (1, 2, 1))), ())), (0, 1))
        self.assertEqual(price((3, ((0, 1, 1), (1, 2, 1))), told((3, ()), ())), 0)


class BeyondTheLimits(unittest.TestCase):
    def test_more_places_ways_and_pairs_raise_nothing(self):
        net = (14, tuple((place, place + 1, 10001 + place) for place in range(13)) * 2)
        pairs = tuple((place, place + 5) for place in range(8))
        self.assertEqual(told(net, pairs), tuple(range(12)))
        self.assertEqual(moments(net, pairs)[-1][2], ())

    def test_a_way_that_costs_nothing_is_full_at_time_0(self):
        net = (3, ((0, 1, 0), (1, 2, 3)))
        self.assertEqual(growth(net, ((0, 2),)), ((whole(0), 0), ((3, 2), 1)))
        self.assertEqual(
            moments(net, ((0, 2),))[0], (whole(0), ((0, 1), (2,)), ((0, 1), (2,)))
        )
