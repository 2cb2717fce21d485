"""Point 15: steps, least dances and their ranks, and what undoes a dance."""

import inspect
import unittest
from math import gcd

from ropedance.dances import number
from ropedance.errors import BadMove, BadText, NoDance, NoFraction, RopeError
from ropedance.fractions import fraction, from_quotients, quotients
from ropedance.least import LeastDances, steps, undo
from ropes import INFINITE, dances_up_to, fibonacci, led, number_by_hand, walk

BIG = 10 ** 30
LAYERS = walk(12)
SMALL_FRACTIONS = [INFINITE] + [(p, q) for q in range(1, 12) for p in range(-25, 26) if gcd(p, q) == 1]


def mirror(pair):
    return pair if pair == INFINITE else (-pair[0], pair[1])


def counted_back(pair):
    """How many least dances there are, counted by going back a letter at a time."""
    ways = {pair: 1}
    for left in range(steps(pair) - 1, -1, -1):
        nearer = {}
        for one, many in ways.items():
            for letter in "TUR":
                if steps(led(one, letter)) == left:
                    nearer[led(one, letter)] = nearer.get(led(one, letter), 0) + many
        ways = nearer
    return ways[0, 1]


# Quotients of one or two digits, many of them 1, and fractions with many digits.
ROWS = ([0] + [1] * 300 + [2], [3] + [1, 1, 2, 1] * 80 + [1, 5], [1] * 150 + [4] + [1] * 150 + [2],
        [0] + [1, 1, 7, 1, 3, 1, 1, 1] * 30 + [9], [12, 1, 30, 1, 1, 1] * 25 + [2])
LONG_FRACTIONS = [from_quotients(row) for row in ROWS] + [mirror(from_quotients(row)) for row in ROWS]


class QuotientsTest(unittest.TestCase):
    def test_examples(self):
        for pair, wanted in (((0, 1), [0]), ((7, 1), [7]), ((1, 7), [0, 7]), ((7, 3), [2, 3]), ((3, 7), [0, 2, 3]),
                             ((2, 3), [0, 1, 2]), ((8, 5), [1, 1, 1, 2]), (INFINITE, [0, 0])):
            self.assertEqual(quotients(pair), wanted)
            self.assertEqual(quotients(mirror(pair)), wanted)
            self.assertEqual(from_quotients(wanted), pair)

    def test_there_and_back(self):
        for p, q in SMALL_FRACTIONS:
            self.assertEqual(from_quotients(quotients((p, q))), (abs(p), q))
        for row in ROWS:
            self.assertEqual(quotients(from_quotients(row)), row)


class StepsTest(unittest.TestCase):
    def assert_steps(self, pair, wanted):
        given = steps(pair)
        self.assertIs(type(given), int)
        # Numbers with very many digits could not be shown.
        self.assertTrue(given == wanted)

    def test_zero_and_infinite(self):
        self.assert_steps((0, 1), 0)
        self.assert_steps(INFINITE, 1)

    def test_integers(self):
        for n in list(range(1, 50)) + [BIG, BIG ** 100 + 7]:
            self.assert_steps((n, 1), n)
            self.assert_steps((-n, 1), n)

    def test_examples(self):
        for pair, wanted in (((1, 2), 3), ((-1, 2), 3), ((3, 2), 4), ((-3, 2), 4), ((1, 3), 4), ((2, 3), 5),
                             ((-2, 5), 6), ((5, 3), 6), ((7, 3), 6), ((13, 8), 10)):
            self.assert_steps(pair, wanted)

    def test_all_fractions_with_few_steps(self):
        for wanted, layer in enumerate(LAYERS):
            for pair in layer:
                self.assert_steps(pair, wanted)

    def test_no_shorter_dance_leads_there(self):
        shortest = {}
        for dance in dances_up_to(8):
            shortest.setdefault(number_by_hand(dance), len(dance))
        for pair, wanted in shortest.items():
            self.assert_steps(pair, wanted)

    def test_very_many_steps(self):
        for n in (10 ** 6, BIG, BIG ** 100):
            for sign in (1, -1):
                self.assert_steps((sign, n), n + 1)
                self.assert_steps((sign * n, n + 1), n + 3)
                self.assert_steps((sign * (n + 1), n), n + 2)
                self.assert_steps((sign * (5 * n + 1), n), n + 6)
                self.assert_steps((sign * (n * n + 1), n), 2 * n + 1)
                self.assert_steps((sign * n, n * n + 1), 2 * n + 2)

    def test_many_quotients(self):
        for row in ROWS + ([BIG, 1, BIG + 1, 7, BIG ** 50] * 40 + [BIG],):
            p, q = from_quotients(row)
            self.assert_steps((p, q), sum(row) + len(row) - 1)
            self.assert_steps((-p, q), sum(row) + len(row) - 1)

    def test_a_letter_changes_them_by_one_at_most_and_one_lowers_them(self):
        # Together with 0 for 0 alone this says that they are the least numbers of letters.
        big = [fraction(p * BIG ** 40 + 12345678901, q * BIG ** 39 + 987) for p in (-7, 3, 11) for q in (1, 4, 13)]
        for pair in SMALL_FRACTIONS + LONG_FRACTIONS + big:
            here = steps(pair)
            changes = {letter: steps(led(pair, letter)) - here for letter in "TUR"}
            self.assertTrue(all(-1 <= change <= 1 for change in changes.values()))
            self.assertEqual(-1 in changes.values(), pair != (0, 1))
            self.assertEqual(here == 0, pair == (0, 1))


class LeastDancesTest(unittest.TestCase):
    def test_all_fractions_with_few_steps(self):
        for layer in LAYERS:
            for pair, wanted in layer.items():
                least = LeastDances(pair)
                self.assertIs(type(least.dance_count), int)
                self.assertEqual(least.dance_count, len(wanted))
                self.assertEqual([least.dance(rank) for rank in range(len(wanted))], wanted)
                self.assertEqual([least.rank_of(dance) for dance in wanted], list(range(len(wanted))))
                self.assertEqual(list(least.dances(0)), wanted)

    def test_examples(self):
        for pair, wanted in (((0, 1), [""]), (INFINITE, ["R"]), ((1, 1), ["T"]), ((-1, 1), ["U"]), ((4, 1), ["TTTT"]),
                             ((-3, 1), ["UUU"]), ((1, 2), ["UUR"]), ((-1, 2), ["TTR"]),
                             ((2, 3), ["TTRUR", "TTTRT"]), ((-2, 3), ["UURTR", "UUURU"]),
                             ((5, 3), ["TTRURT", "TTTRTT"]), ((-5, 3), ["UURTRU", "UUURUU"]),
                             ((8, 5), ["UURTRURT", "UURTTRTT", "UUURUURT"])):
            self.assertEqual(list(LeastDances(pair).dances(0)), wanted)
            self.assertEqual(LeastDances(pair).dance_count, len(wanted))

    def test_one_least_dance_only(self):
        for n in list(range(-20, 21)) + [BIG, -BIG, BIG ** 100]:
            self.assertTrue(LeastDances((n, 1)).dance_count == 1)
            if n:
                self.assertTrue(LeastDances(fraction(1, n)).dance_count == 1)
        self.assertEqual(LeastDances((5000, 1)).dance(0), "T" * 5000)
        self.assertEqual(LeastDances((-1, 5000)).dance(0), "T" * 5000 + "R")

    def test_counts_of_fractions_with_many_digits(self):
        for pair in LONG_FRACTIONS[::3]:
            self.assertTrue(LeastDances(pair).dance_count == counted_back(pair))
        for n in (5, 50, 1000, 3000):
            # All quotients between the first one and the last one are 1.
            for first in (0, 1, 9, BIG):
                pair = from_quotients([first] + [1] * n + [BIG + 2])
                self.assertTrue(LeastDances(pair).dance_count == fibonacci(n + 2))
                self.assertTrue(LeastDances(mirror(pair)).dance_count == fibonacci(n + 2))
        pair = from_quotients(([BIG ** 20] + [1] * 6) * 30 + [4])
        self.assertTrue(LeastDances(pair).dance_count == fibonacci(8) ** 30)

    def test_ranks_of_many_digits(self):
        for pair in LONG_FRACTIONS:
            least = LeastDances(pair)
            many = least.dance_count
            self.assertGreater(many, 10 ** 6)
            for rank in (0, 1, 2, many // 7, many // 3, many // 2 - 1, many // 2, 3 * many // 4, many - 2, many - 1):
                dance = least.dance(rank)
                self.assertEqual(len(dance), steps(pair))
                self.assertTrue(number_by_hand(dance) == pair)
                self.assertEqual(least.rank_of(dance), rank)
                if rank + 1 < many:
                    self.assertLess(dance, least.dance(rank + 1))
                    self.assertEqual(list(zip(range(2), least.dances(rank)))[1][1], least.dance(rank + 1))

    def test_first_and_last_one(self):
        for pair, many, first, last in (((8, 13), 8, "UURTRURTRUR", "UUURUUURUUR"),
                                        ((-8, 13), 8, "TTRURTRURTR", "TTTRTTTRTTR"),
                                        ((21, 13), 8, "UURTRURTRURT", "UUURUUURUURT")):
            least = LeastDances(pair)
            self.assertEqual((least.dance_count, least.dance(0), least.dance(many - 1)), (many, first, last))
            self.assertEqual((least.rank_of(first), least.rank_of(last)), (0, many - 1))

    def test_what_was_made_is_not_changed(self):
        least = LeastDances((8, 5))
        for _ in range(2):
            self.assertEqual(least.dance_count, 3)
            self.assertEqual([least.dance(rank) for rank in (2, 0, 1)], ["UUURUURT", "UURTRURT", "UURTTRTT"])
            self.assertEqual(least.rank_of("UURTTRTT"), 1)


class DancesTest(unittest.TestCase):
    def test_from_each_start(self):
        for layer in LAYERS[:10]:
            for pair, wanted in layer.items():
                for start in range(len(wanted) + 3):
                    self.assertEqual(list(LeastDances(pair).dances(start)), wanted[start:])

    def test_it_is_a_generator(self):
        self.assertTrue(inspect.isgenerator(LeastDances((2, 3)).dances(0)))
        self.assertTrue(inspect.isgenerator(LeastDances((2, 3)).dances(7)))

    def test_at_the_count_and_beyond(self):
        for pair in ((0, 1), INFINITE, (2, 3), (-8, 5), LONG_FRACTIONS[0]):
            many = LeastDances(pair).dance_count
            for start in (many, many + 1, 2 * many, many + BIG):
                self.assertEqual(list(LeastDances(pair).dances(start)), [])
            self.assertEqual(len(list(LeastDances(pair).dances(many - 1))), 1)

    def test_two_generators_in_turns(self):
        pair = (34, 21)
        wanted = list(LeastDances(pair).dances(0))
        self.assertEqual(len(wanted), fibonacci(7))
        least = LeastDances(pair)
        one, other = least.dances(0), least.dances(3)
        taken_one, taken_other = [], []
        for _ in range(len(wanted) - 3):
            taken_one.append(next(one))
            taken_other.append(next(other))
            self.assertEqual(least.rank_of(least.dance(1)), 1)
        self.assertEqual(taken_one + list(one), wanted)
        self.assertEqual(taken_other + list(other), wanted[3:])

    def test_a_start_of_many_digits(self):
        least = LeastDances(LONG_FRACTIONS[1])
        many = least.dance_count
        last = list(least.dances(many - 5))
        self.assertEqual(last, [least.dance(many - k) for k in (5, 4, 3, 2, 1)])
        self.assertEqual(last, sorted(last))


class NoDanceTest(unittest.TestCase):
    def assert_none(self, function, argument):
        with self.assertRaises(NoDance) as caught:
            function(argument)
        self.assertIs(type(caught.exception), NoDance)
        self.assertIsInstance(caught.exception, RopeError)
        self.assertIsInstance(caught.exception, ValueError)
        for other in (BadMove, BadText, NoFraction):
            self.assertNotIsInstance(caught.exception, other)

    def test_ranks(self):
        for pair in ((0, 1), INFINITE, (1, 1), (-1, 1), (2, 3), (-8, 5), (BIG, 1), (-1, BIG)) + tuple(LONG_FRACTIONS):
            least = LeastDances(pair)
            many = least.dance_count
            for rank in (-1, -2, -many, -many - 1, -BIG, many, many + 1, 2 * many, many + BIG):
                self.assert_none(least.dance, rank)

    def test_dances_of_another_length(self):
        for pair in ((0, 1), INFINITE, (1, 1), (-4, 1), (2, 3), (-8, 5)):
            least = LeastDances(pair)
            for dance in least.dances(0):
                for other in (dance + "RR", dance + "TU", "RTR" + dance, dance + "T", dance[:-1] + "TUR",
                              dance * 5 + "R"):
                    self.assert_none(least.rank_of, other)
                if dance:
                    self.assert_none(least.rank_of, dance[:-1])
                    self.assert_none(least.rank_of, dance[1:])

    def test_the_empty_dance(self):
        self.assertEqual(LeastDances((0, 1)).rank_of(""), 0)
        for pair in (INFINITE, (1, 1), (-1, 1), (2, 3), (BIG, 1), (-BIG, BIG + 1)):
            self.assert_none(LeastDances(pair).rank_of, "")

    def test_dances_of_another_number_and_all_others_of_the_same_length(self):
        for pair in ((0, 1), INFINITE, (1, 1), (-1, 1), (3, 1), (1, 2), (2, 3), (-2, 3), (5, 3), (-5, 2)):
            least = LeastDances(pair)
            wanted = LAYERS[steps(pair)][pair]
            for dance in dances_up_to(7):
                if dance in wanted:
                    self.assertEqual(least.rank_of(dance), wanted.index(dance))
                else:
                    self.assert_none(least.rank_of, dance)

    def test_long_dances(self):
        least = LeastDances(LONG_FRACTIONS[0])
        dance = least.dance(least.dance_count // 3)
        for k in range(0, len(dance), 17):
            for letter in "TUR":
                if letter != dance[k]:
                    self.assert_none(least.rank_of, dance[:k] + letter + dance[k + 1:])
        self.assert_none(LeastDances((BIG, 1)).rank_of, "T" * 1000)
        self.assert_none(LeastDances((1000, 1)).rank_of, "U" * 1000)


class UndoTest(unittest.TestCase):
    def test_examples(self):
        for dance, wanted in (("", ""), ("T", "U"), ("U", "T"), ("R", "R"), ("TTR", "RUU"), ("RT", "R"), ("RTR", ""),
                              ("TR", "T"), ("UR", "U"), ("TTRUR", "RTRUU"), ("TTTRT", "RTRUU"), ("TTTRR", "UUU")):
            self.assertEqual(undo(dance), wanted)

    def test_against_all_dances_that_are_no_longer(self):
        # For each length the dances come in the order of strings.
        in_order = sorted(dances_up_to(6), key=lambda dance: (len(dance), dance))
        undone_by = {}
        for pair in {number_by_hand(dance) for dance in in_order}:
            undone_by[pair] = next(dance for dance in in_order if number_by_hand(dance, pair) == (0, 1))
        for dance in in_order:
            given = undo(dance)
            self.assertIs(type(given), str)
            self.assertEqual(given, undone_by[number_by_hand(dance)], dance)

    def test_numbers_that_are_0_already(self):
        for dance in ("", "TU", "RR", "RTR", "RUR", "TRTRTR", "RTTTTR", "TTRURRTRUU", "RUUUR" * 100):
            self.assertEqual(number_by_hand(dance), (0, 1))
            self.assertEqual(undo(dance), "")

    def test_all_fractions_with_few_steps(self):
        backwards = {"T": "U", "U": "T", "R": "R"}
        for layer in LAYERS:
            for dances in layer.values():
                first = min("".join(backwards[letter] for letter in dance[::-1]) for dance in dances)
                for dance in dances:
                    self.assertEqual(undo(dance), first)
                    self.assertEqual(undo("RTR" + dance + "RR"), first)

    def test_long_dances(self):
        for dance in ("TTTR" * 250, "UUURTRTTTTR" * 91, "TTUURUR" * 143, "T" * 999, "R" * 1001, "TRUR" * 300):
            behind = undo(dance)
            self.assertLessEqual(len(behind), len(dance))
            self.assertEqual(len(behind), steps(number(dance)))
            self.assertEqual(number_by_hand(dance + behind), (0, 1))
        self.assertEqual(undo("T" * 999), "U" * 999)


if __name__ == "__main__":
    unittest.main()
