"""Points 2 to 5: fractions, their order, and where a dance leads them."""

import unittest
from fractions import Fraction
from math import gcd

from ropedance.errors import BadMove, BadText, NoDance, NoFraction, RopeError
from ropedance.fractions import after, fraction, less
from ropes import dances_up_to

INFINITE = (1, 0)
BIG = 10 ** 30
SMALL_FRACTIONS = [INFINITE] + [(p, q) for q in range(1, 6) for p in range(-9, 10) if gcd(p, q) == 1]


def value(pair):
    """The number that a fraction stands for; None for infinite."""
    return None if pair == INFINITE else Fraction(*pair)


def pair_of(number):
    return INFINITE if number is None else (number.numerator, number.denominator)


def led(number, letter):
    """Point 4, on numbers."""
    if letter == "R":
        if number is None:
            return Fraction(0)
        return None if number == 0 else -1 / number
    if number is None:
        return None
    return number + 1 if letter == "T" else number - 1


def led_along(pair, dance):
    number = value(pair)
    for letter in dance:
        number = led(number, letter)
    return pair_of(number)


class FractionCase(unittest.TestCase):
    def assert_fraction(self, given, wanted):
        self.assertIs(type(given), tuple)
        self.assertEqual([type(part) for part in given], [int, int])
        self.assertEqual(given, wanted)


class FractionTest(FractionCase):
    def test_both_signs(self):
        self.assert_fraction(fraction(2, 3), (2, 3))
        self.assert_fraction(fraction(-2, 3), (-2, 3))
        self.assert_fraction(fraction(2, -3), (-2, 3))
        self.assert_fraction(fraction(-2, -3), (2, 3))

    def test_common_divisors(self):
        self.assert_fraction(fraction(6, 4), (3, 2))
        self.assert_fraction(fraction(-6, 4), (-3, 2))
        self.assert_fraction(fraction(6, -4), (-3, 2))
        self.assert_fraction(fraction(-6, -4), (3, 2))
        self.assert_fraction(fraction(12, 4), (3, 1))
        self.assert_fraction(fraction(4, -12), (-1, 3))
        self.assert_fraction(fraction(7, 7), (1, 1))
        self.assert_fraction(fraction(7, -7), (-1, 1))

    def test_zero(self):
        for q in (1, -1, 2, -2, 100, -100, BIG, -BIG):
            self.assert_fraction(fraction(0, q), (0, 1))

    def test_infinite(self):
        for p in (1, -1, 2, -2, 100, -100, BIG, -BIG):
            self.assert_fraction(fraction(p, 0), INFINITE)

    def test_integers(self):
        for n in range(-20, 21):
            self.assert_fraction(fraction(n, 1), (n, 1))
            self.assert_fraction(fraction(n, -1), (-n, 1))

    def test_big_numbers(self):
        self.assert_fraction(fraction(BIG, BIG + 1), (BIG, BIG + 1))
        self.assert_fraction(fraction(BIG * 15, -BIG * 10), (-3, 2))
        self.assert_fraction(fraction(-3 ** 90 * 2 ** 120, -3 ** 80 * 2 ** 130), (3 ** 10, 2 ** 10))
        self.assert_fraction(fraction(BIG ** 20, BIG ** 19), (BIG, 1))
        self.assert_fraction(fraction(-BIG ** 19, BIG ** 20), (-1, BIG))

    def test_all_small_numbers(self):
        for p in range(-12, 13):
            for q in range(-12, 13):
                if q != 0:
                    self.assert_fraction(fraction(p, q), pair_of(Fraction(p, q)))

    def test_what_is_a_fraction_already(self):
        for p, q in SMALL_FRACTIONS + [(BIG, BIG + 1), (-BIG - 1, BIG)]:
            self.assert_fraction(fraction(p, q), (p, q))

    def test_zero_by_zero(self):
        with self.assertRaises(NoFraction) as caught:
            fraction(0, 0)
        self.assertIs(type(caught.exception), NoFraction)
        self.assertIsInstance(caught.exception, RopeError)
        self.assertIsInstance(caught.exception, ValueError)
        for other in (BadMove, BadText, NoDance):
            self.assertNotIsInstance(caught.exception, other)


class LessTest(unittest.TestCase):
    def assert_less(self, one, other):
        self.assertIs(less(one, other), True)
        self.assertIs(less(other, one), False)

    def test_equal_ones(self):
        for one in SMALL_FRACTIONS + [(BIG, BIG + 1), (-BIG, BIG + 1)]:
            self.assertIs(less(one, one), False)
            self.assertIs(less(one, tuple(list(one))), False)

    def test_ordinary_ones(self):
        self.assert_less((1, 3), (1, 2))
        self.assert_less((2, 1), (7, 3))
        self.assert_less((0, 1), (1, 100))

    def test_negative_ones(self):
        self.assert_less((-1, 2), (-1, 3))
        self.assert_less((-3, 1), (-5, 2))
        self.assert_less((-1, 100), (0, 1))
        self.assert_less((-7, 2), (1, 9))
        self.assert_less((-1, 1), (1, 1))

    def test_infinite(self):
        self.assertIs(less(INFINITE, INFINITE), False)
        for other in ((0, 1), (1, 1), (-1, 1), (5, 7), (-5, 7), (BIG, 1), (-BIG, 1)):
            self.assert_less(other, INFINITE)

    def test_big_numbers(self):
        self.assert_less((BIG, BIG + 1), (BIG + 1, BIG + 2))
        self.assert_less((-BIG - 1, BIG + 2), (-BIG, BIG + 1))

    def test_all_small_ones(self):
        ordered = sorted((pair for pair in SMALL_FRACTIONS if pair != INFINITE), key=value) + [INFINITE]
        for k, one in enumerate(ordered):
            for m, other in enumerate(ordered):
                self.assertIs(less(one, other), k < m)


class AfterTest(FractionCase):
    def test_each_letter_from_zero(self):
        self.assert_fraction(after((0, 1), "T"), (1, 1))
        self.assert_fraction(after((0, 1), "U"), (-1, 1))
        self.assert_fraction(after((0, 1), "R"), INFINITE)

    def test_each_letter_from_infinite(self):
        self.assert_fraction(after(INFINITE, "T"), INFINITE)
        self.assert_fraction(after(INFINITE, "U"), INFINITE)
        self.assert_fraction(after(INFINITE, "R"), (0, 1))

    def test_each_letter_from_integers(self):
        self.assert_fraction(after((3, 1), "T"), (4, 1))
        self.assert_fraction(after((3, 1), "U"), (2, 1))
        self.assert_fraction(after((3, 1), "R"), (-1, 3))
        self.assert_fraction(after((-3, 1), "T"), (-2, 1))
        self.assert_fraction(after((-3, 1), "U"), (-4, 1))
        self.assert_fraction(after((-3, 1), "R"), (1, 3))
        self.assert_fraction(after((1, 1), "U"), (0, 1))
        self.assert_fraction(after((1, 1), "R"), (-1, 1))
        self.assert_fraction(after((-1, 1), "R"), (1, 1))

    def test_each_letter_from_other_fractions(self):
        self.assert_fraction(after((2, 5), "T"), (7, 5))
        self.assert_fraction(after((2, 5), "U"), (-3, 5))
        self.assert_fraction(after((2, 5), "R"), (-5, 2))
        self.assert_fraction(after((-2, 5), "T"), (3, 5))
        self.assert_fraction(after((-2, 5), "U"), (-7, 5))
        self.assert_fraction(after((-2, 5), "R"), (5, 2))
        self.assert_fraction(after((-1, 5), "R"), (5, 1))

    def test_big_fractions(self):
        self.assert_fraction(after((BIG, BIG + 1), "T"), (2 * BIG + 1, BIG + 1))
        self.assert_fraction(after((BIG, BIG + 1), "U"), (-1, BIG + 1))
        self.assert_fraction(after((BIG, BIG + 1), "R"), (-BIG - 1, BIG))

    def test_the_empty_dance(self):
        for pair in SMALL_FRACTIONS:
            self.assert_fraction(after(pair, ""), pair)

    def test_the_first_letter_comes_first(self):
        self.assert_fraction(after((0, 1), "TR"), (-1, 1))
        self.assert_fraction(after((0, 1), "RT"), INFINITE)
        self.assert_fraction(after((2, 1), "TTRU"), (-5, 4))

    def test_short_dances_letter_by_letter(self):
        for pair in (INFINITE, (0, 1), (1, 1), (-2, 1), (3, 7), (-5, 2)):
            for dance in dances_up_to(5):
                self.assert_fraction(after(pair, dance), led_along(pair, dance))

    def test_a_dance_in_two_parts(self):
        dance = "TTRURTTTRUURTRTTRUR"
        for pair in SMALL_FRACTIONS:
            whole = after(pair, dance)
            for k in range(len(dance) + 1):
                self.assertEqual(after(after(pair, dance[:k]), dance[k:]), whole)

    def test_a_thousand_letters(self):
        self.assert_fraction(after((1, 2), "T" * 1000), (2001, 2))
        self.assert_fraction(after((1, 2), "U" * 1000), (-1999, 2))
        self.assert_fraction(after((1, 2), "R" * 1000), (1, 2))
        self.assert_fraction(after((1, 2), "R" * 1001), (-2, 1))
        for dance in ("TTTR" * 250, "UUURTRTTTTR" * 91, "TTUURUR" * 143):
            for pair in (INFINITE, (0, 1), (-3, 8)):
                self.assert_fraction(after(pair, dance), led_along(pair, dance))
        self.assertGreater(after((0, 1), "TTTR" * 250)[1], 10 ** 100)

    def test_arguments_stay_as_they_were(self):
        pair, dance = (3, 7), "TRU"
        after(pair, dance)
        less(pair, pair)
        self.assertEqual((pair, dance), ((3, 7), "TRU"))


if __name__ == "__main__":
    unittest.main()
