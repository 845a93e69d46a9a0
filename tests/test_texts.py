"""Points [4] and [20]: the text of a net and pairs."""

import unittest
from itertools import combinations
from random import Random

from moatways.errors import BadText
from moatways.texts import read_task, write_task
from tests.helper import EXAMPLE, EXAMPLE_PAIRS, some_net

TEXT = "places 4\nway 0 1 4\nway 1 2 4\nway 2 3 4\nway 0 3 20\npair 0 2\npair 1 3\n"
ENDS = tuple(combinations(range(12), 2))
FULL_NET = (12, tuple((a, b, 10000 - a) for a, b in ENDS[:24]))
FULL_PAIRS = ENDS[:6]
FULL = write_task(FULL_NET, FULL_PAIRS)


class Written(unittest.TestCase):
    def check(self, net, pairs, text):
        self.assertEqual(write_task(net, pairs), text)
        self.assertEqual(read_task(text), (net, pairs))

    def test_the_example(self):
        self.check(EXAMPLE, EXAMPLE_PAIRS, TEXT)

    def test_without_ways_and_without_pairs(self):
        self.check((1, ()), (), "places 1\n")
        self.check((12, ()), (), "places 12\n")

    def test_without_ways(self):
        self.check((3, ()), ((1, 2), (0, 2)), "places 3\npair 1 2\npair 0 2\n")

    def test_without_pairs(self):
        self.check((2, ((0, 1, 10000), (0, 1, 1))), (), "places 2\nway 0 1 10000\nway 0 1 1\n")

    def test_numbers_of_two_digits(self):
        self.check((12, ((9, 11, 10),)), ((10, 11),), "places 12\nway 9 11 10\npair 10 11\n")

    def test_24_ways_and_6_pairs(self):
        self.assertEqual(FULL.count("\n"), 31)
        self.check(FULL_NET, FULL_PAIRS, FULL)

    def test_the_same_way_twice(self):
        self.check((2, ((0, 1, 5), (0, 1, 5))), (), "places 2\nway 0 1 5\nway 0 1 5\n")

    def test_beyond_the_limits_writing_raises_nothing(self):
        self.assertEqual(
            write_task((13, ((0, 12, 10001),) * 25), tuple((0, b) for b in range(1, 8))),
            "places 13\n" + 25 * "way 0 12 10001\n"
            + "".join(f"pair 0 {b}\n" for b in range(1, 8)),
        )

    def test_drawn_tasks(self):
        chance = Random(81)
        for _ in range(200):
            net = some_net(chance, chance.randint(1, 12), chance.randint(0, 24), 10000)
            every = list(combinations(range(net[0]), 2))
            pairs = tuple(chance.sample(every, min(len(every), chance.randint(0, 6))))
            self.assertEqual(read_task(write_task(net, pairs)), (net, pairs))


class KindsOfValues(unittest.TestCase):
    def test_tuples_of_integers(self):
        (places, ways), pairs = read_task(TEXT)
        self.assertIs(type(places), int)
        for rows in (ways, pairs):
            self.assertIs(type(rows), tuple)
            for row in rows:
                self.assertIs(type(row), tuple)
                for number in row:
                    self.assertIs(type(number), int)


class Refusing(unittest.TestCase):
    def bad(self, text, line):
        with self.assertRaises(BadText) as caught:
            read_task(text)
        self.assertEqual(caught.exception.line, line, repr(text))

    def bad_line(self, line):
        """The line cannot stand in any place: alone, behind the places, a way or a pair."""
        for before in ("", "places 5\n", "places 5\nway 0 1 3\n", "places 5\npair 0 1\n"):
            number = before.count("\n") + 1
            self.bad(before + line + "\n", number)
            self.bad(before + line + "\nways\npair 1 1\n", number)
            if line:
                self.bad(before + line, number)

    def test_an_empty_text(self):
        self.bad("", 1)

    def test_an_empty_line(self):
        self.bad_line("")
        self.bad("\n", 1)
        self.bad("\n\n", 1)
        self.bad("\n" + TEXT, 1)
        self.bad(TEXT + "\n", 8)
        self.bad(TEXT + "\n\n", 8)
        self.bad(TEXT.replace("\nway 2", "\n\nway 2"), 4)

    def test_wrong_words(self):
        for line in (
            "place 4", "Places 4", "places", "places four", "ways 1 2 3", "Way 1 2 3", "way",
            "way 1 2", "way 1 2 3 4", "way a b c", "pair", "pair 1", "pair 1 2 3", "pairs 1 2",
            "pair a b", "PAIR 1 2", "1 2", "1", "places4", "way1 2 3", "pair1 2", "road 1 2 3",
        ):
            self.bad_line(line)
        self.bad("places 4 4\n", 1)

    def test_spaces(self):
        for line in (
            " ", " way 1 2 3", "way 1 2 3 ", "way  1 2 3", "way 1  2 3", " pair 1 2", "pair 1 2 ",
            "pair  1 2", "pair 1  2", " places 4", "places 4 ", "places  4", "places ", "way 1 2 ",
            "pair 1 ", "way\t1 2 3", "way 1 2\t3", "pair 1 2\r", "way 1 2 3\r", "places 4\r",
        ):
            self.bad_line(line)

    def test_signs(self):
        for line in (
            "places +4", "places -4", "places 4.", "places 4.0", "places 4_0", "places 1_0",
            "way +1 2 3", "way 1 +2 3", "way 1 2 +3", "way -1 2 3", "way 1 -2 3", "way 1 2 -3",
            "way -0 2 3", "way 1 2 3.0", "way 1 2 1_0", "way 1 2 1e3", "way 1 2 0x3",
            "pair +1 2", "pair 1 +2", "pair -1 2", "pair -0 2", "pair 1 2.0",
        ):
            self.bad_line(line)

    def test_leading_zeros(self):
        for line in (
            "places 04", "places 012", "places 00", "way 01 2 3", "way 1 02 3", "way 1 2 03",
            "way 00 2 3", "way 1 2 00003", "way 1 2 010000", "pair 01 2", "pair 1 02", "pair 00 2",
        ):
            self.bad_line(line)

    def test_digits_that_are_not_decimal(self):
        for digit in ("\u00b2", "\u0662", "\uff12"):
            self.bad_line(f"places {digit}")
            self.bad_line(f"way 1 {digit} 3")
            self.bad_line(f"way 1 2 {digit}")
            self.bad_line(f"pair 1 {digit}")

    def test_very_long_numbers(self):
        for many in (6, 400, 4301, 20000):
            for digit in "109":
                number = many * digit
                for line in ("places {}", "way 1 {} 3", "way {} 2 3", "way 1 2 {}", "pair 1 {}"):
                    self.bad_line(line.format(number))

    def test_the_limits_of_the_places(self):
        self.bad("places 0\n", 1)
        self.bad("places 13\n", 1)
        self.bad("places 100\n", 1)
        for places in range(1, 13):
            self.assertEqual(read_task(f"places {places}\n"), ((places, ()), ()))

    def test_the_limits_of_the_ends(self):
        for places in range(1, 13):
            for a in range(14):
                for b in range(14):
                    for line, task in (
                        (f"way {a} {b} 7", ((places, ((a, b, 7),)), ())),
                        (f"pair {a} {b}", ((places, ()), ((a, b),))),
                    ):
                        text = f"places {places}\n{line}\n"
                        if a < b < places:
                            self.assertEqual(read_task(text), task)
                        else:
                            self.bad(text, 2)

    def test_the_limits_of_the_cost(self):
        for cost in (1, 2, 9999, 10000):
            self.assertEqual(
                read_task(f"places 2\nway 0 1 {cost}\n"), ((2, ((0, 1, cost),)), ())
            )
        for cost in (0, 10001, 99999, 100000):
            self.bad(f"places 2\nway 0 1 {cost}\n", 2)

    def test_a_way_too_many(self):
        way = "way 0 1 5\n"
        self.assertEqual(len(read_task("places 2\n" + 24 * way)[0][1]), 24)
        self.bad("places 2\n" + 25 * way, 26)
        self.bad("places 2\n" + 26 * way, 26)
        self.bad("places 2\n" + 25 * way + "pair 0 1\n", 26)
        self.bad("places 2\n" + 24 * way + "way 0 1 5", 26)

    def test_a_pair_too_many(self):
        pairs = [f"pair 0 {b}\n" for b in range(1, 9)]
        self.assertEqual(len(read_task("places 9\n" + "".join(pairs[:6]))[1]), 6)
        self.bad("places 9\n" + "".join(pairs[:7]), 8)
        self.bad("places 9\n" + "".join(pairs), 8)
        self.bad(FULL + "pair 5 7\n", 32)
        self.bad(FULL + "pair 5 7", 32)

    def test_a_pair_that_is_there_already(self):
        self.bad(TEXT + "pair 0 2\n", 8)
        self.bad(TEXT + "pair 1 3\n", 8)
        self.bad(TEXT + "pair 1 2\npair 0 1\npair 1 2\n", 10)
        self.bad("places 3\npair 0 1\npair 0 1", 3)

    def test_a_way_behind_a_pair(self):
        self.bad(TEXT + "way 0 1 4\n", 8)
        self.bad("places 3\npair 0 1\nway 0 1 4\npair 0 2\n", 3)

    def test_places_that_do_not_come_first_or_come_again(self):
        self.bad("way 0 1 4\nplaces 4\n", 1)
        self.bad("pair 0 1\nplaces 4\n", 1)
        self.bad("places 4\nplaces 4\n", 2)
        self.bad("places 4\nway 0 1 4\nplaces 4\n", 3)
        self.bad(TEXT + "places 4\n", 8)

    def test_without_the_last_newline(self):
        self.bad("places 1", 1)
        self.bad(TEXT[:-1], 7)
        self.bad("places 4\nway 0 1 4", 2)
        self.bad(FULL[:-1], 31)

    def test_a_text_cut_at_each_place(self):
        for text in (TEXT, FULL, "places 12\npair 0 11\n"):
            for at in range(len(text) + 1):
                part = text[:at]
                if part.endswith("\n"):
                    net, pairs = read_task(part)
                    self.assertEqual(write_task(net, pairs), part)
                else:
                    self.bad(part, part.count("\n") + 1)

    def test_a_text_cut_at_its_front(self):
        for at in range(1, len(TEXT) + 1):
            self.bad(TEXT[at:], 1)

    def test_a_second_text_behind_the_last_newline(self):
        self.bad(TEXT + TEXT, 8)
        self.bad("places 1\nplaces 1\n", 2)
        self.bad("places 1\nplaces 1", 2)
        self.bad(FULL + FULL, 32)

    def test_the_first_of_several_wrong_lines(self):
        self.bad("places 4\nway 0 1 0\nway 1 0 1\npair 1 1", 2)
        self.bad("places 4\nway 0 1 1\nway 1 0 1\npair 1 1", 3)

    def test_changed_texts_are_read_as_they_stand_or_refused(self):
        chance = Random(82)
        read = 0
        for _ in range(3000):
            at = chance.randrange(len(TEXT))
            drawn = chance.choice(" \n0123459apwy-+_\t")
            text = TEXT[:at] + chance.choice(("", drawn)) + TEXT[at + chance.randint(0, 1):]
            try:
                net, pairs = read_task(text)
            except BadText as error:
                self.assertLessEqual(error.line, text.count("\n") + 1)
                self.assertGreaterEqual(error.line, text[:at].count("\n"))
            else:
                read += 1
                self.assertEqual(write_task(net, pairs), text)
        self.assertGreater(read, 100)
