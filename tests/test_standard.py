"""Point 9 and to_standard: standard dances, and moves that lead there."""

import unittest
from fractions import Fraction
from math import floor, gcd

from ropedance.dances import number
from ropedance.moves import is_move, leads
from ropedance.standard import standard, to_standard
from ropes import after_moves, dances_up_to

INFINITE = (1, 0)
SMALL_FRACTIONS = [INFINITE] + [(p, q) for q in range(1, 10) for p in range(-30, 31) if gcd(p, q) == 1]


def standard_by_the_words(x):
    """The standard dance of a number, as point 9 has it."""
    if x.denominator == 1:
        return "T" * int(x) if x >= 0 else "U" * int(-x)
    b = floor(x) + 1
    return standard_by_the_words(1 / (b - x)) + "R" + standard_by_the_words(Fraction(b))


class StandardTest(unittest.TestCase):
    def assert_standard(self, fraction, wanted):
        given = standard(fraction)
        self.assertIs(type(given), str)
        self.assertEqual(given, wanted)

    def test_infinite(self):
        self.assert_standard(INFINITE, "R")

    def test_integers(self):
        self.assert_standard((0, 1), "")
        for n in range(1, 30):
            self.assert_standard((n, 1), "T" * n)
            self.assert_standard((-n, 1), "U" * n)
        self.assert_standard((5000, 1), "T" * 5000)
        self.assert_standard((-5000, 1), "U" * 5000)

    def test_other_fractions(self):
        for fraction, wanted in (
                ((1, 2), "TTRT"), ((-1, 2), "TTR"), ((3, 2), "TTRTT"), ((-3, 2), "TTRU"), ((-5, 2), "TTRUU"),
                ((1, 3), "TTRTTRT"), ((2, 3), "TTTRT"), ((-1, 3), "TTTR"), ((-2, 3), "TTRTTR"),
                ((4, 3), "TTRTTRTT"), ((5, 3), "TTTRTT"), ((-4, 3), "TTTRU"), ((-2, 5), "TTRTTTR"),
                ((2, 5), "TTTRTTRT"), ((3, 5), "TTRTTTRT"), ((7, 5), "TTTRTTRTT"), ((-12, 5), "TTRTTTRUU")):
            with self.subTest(fraction=fraction):
                self.assert_standard(fraction, wanted)

    def test_small_fractions_by_the_words_of_the_document(self):
        for p, q in SMALL_FRACTIONS[1:]:
            self.assert_standard((p, q), standard_by_the_words(Fraction(p, q)))

    def test_many_turns(self):
        for n in (2, 3, 4, 10, 100, 3000):
            turns = "R".join(["TT"] * (n - 1))
            self.assert_standard((n, n - 1), turns)
            self.assert_standard((1, n), turns + "RT")
            self.assert_standard((1 - n, n), turns + "R")
            self.assert_standard((1 - 3 * n, n), turns + "RUU")

    def test_the_dance_leads_to_the_fraction(self):
        for fraction in SMALL_FRACTIONS:
            self.assertEqual(number(standard(fraction)), fraction)

    def test_many_digits(self):
        bounds = (2, 5, 3, 2, 2, 7, 4) * 60 + (2, 9)
        p, q = 1, 0
        for bound in bounds:
            p, q = bound * p - q, p
        self.assertGreater(q, 10 ** 100)
        words = "R".join(["T" * bound for bound in bounds])
        self.assert_standard((p, q), words)
        # The next bound is -3: x is led to -3 - 1 / x.
        self.assert_standard((-3 * p - q, p), words + "RUUU")
        self.assertEqual(number(words + "RUUU"), (-3 * p - q, p))

    def test_many_letters(self):
        many = 10 ** 4
        self.assert_standard((-1, many), "T" * many + "R")
        self.assert_standard((3 * many - 1, many), "T" * many + "RTTT")
        self.assert_standard((2 * many - 1, many), "T" * many + "RTT")
        self.assert_standard((-many - 1, 1), "U" * (many + 1))


class ToStandardTest(unittest.TestCase):
    def assert_leads(self, dance):
        moves = to_standard(dance)
        wanted = standard(number(dance))
        self.assertIs(type(moves), list)
        for move in moves:
            self.assertIs(type(move), tuple)
            self.assertEqual([type(part) for part in move], [int, str, str])
            self.assertIs(is_move(move), True)
        self.assertEqual(after_moves(dance, moves), wanted)
        self.assertIs(leads(dance, moves, wanted), True)

    def test_all_short_dances(self):
        for dance in dances_up_to(8):
            self.assert_leads(dance)

    def test_the_empty_dance(self):
        self.assert_leads("")

    def test_standard_dances(self):
        for fraction in SMALL_FRACTIONS:
            self.assert_leads(standard(fraction))

    def test_a_standard_dance_with_a_letter_more(self):
        for fraction in SMALL_FRACTIONS:
            dance = standard(fraction)
            for letter in "TUR":
                self.assert_leads(dance + letter)
                self.assert_leads(letter + dance)

    def test_a_standard_dance_with_a_letter_less_or_another_one(self):
        for fraction in ((-3, 7), (9, 8), (-31, 8), (22, 7), (17, 12)):
            dance = standard(fraction)
            for k in range(len(dance)):
                for letter in ("", "T", "U", "R"):
                    self.assert_leads(dance[:k] + letter + dance[k + 1:])

    def test_two_standard_dances(self):
        for one in SMALL_FRACTIONS[::17]:
            for other in SMALL_FRACTIONS[::19]:
                self.assert_leads(standard(one) + standard(other))
                self.assert_leads(standard(one) + "R" + standard(other))

    def test_rows_of_one_letter(self):
        for many in (1, 2, 3, 50, 1000):
            for letter in "TUR":
                self.assert_leads(letter * many)

    def test_rows_of_untwists_and_turns(self):
        for many in (1, 2, 3, 4, 50):
            for words in ("UR", "UUR", "UUUR", "RU", "RUU", "URR", "TR", "TTR", "TRR", "TURR", "UURTTR", "TRU"):
                self.assert_leads(words * many)
            for words in ("R", "RU", "RT", "RUR", "RTR", "RUUR", "RTURU", "RURUR", "RTRTR", "RTRTRT"):
                self.assert_leads("U" * many + words)
                self.assert_leads("T" * many + words)
                self.assert_leads("R" + "U" * many + words)
                self.assert_leads("TTR" + "U" * many + words)
                self.assert_leads("TTTR" + "U" * many + words * many)

    def test_long_rows(self):
        for dance in ("U" * 2000 + "R", "U" * 300 + "R" * 301, "T" * 1000 + "RTR", "TTR" * 1000 + "TR",
                      "TTR" * 500 + "TR" + "U" * 500, "UUUR" * 500, "U" * 300 + "RURUR" * 300,
                      "UR" * 1000, "RU" * 1000, "TU" * 1000, "UT" * 1000, "RTR" * 700, "TTRURUUTRRRTU" * 100):
            self.assert_leads(dance)

    def test_back_from_a_standard_dance(self):
        # The dance and then what undoes it: the number is 0.
        for p, q in SMALL_FRACTIONS[::5]:
            dance = standard((p, q))
            undone = dance + dance[::-1].translate({ord("T"): "U", ord("U"): "T"})
            self.assert_leads(undone)
            self.assertEqual(after_moves(undone, to_standard(undone)), "")

    def test_each_call_returns_its_own_list(self):
        first = to_standard("TRURU")
        kept = list(first)
        first.append((0, "", "RR"))
        first[0] = (7, "x", "y")
        self.assertEqual(to_standard("TRURU"), kept)

    def test_the_dance_itself_stays(self):
        dance = "TRURU"
        to_standard(dance)
        self.assertEqual(dance, "TRURU")


if __name__ == "__main__":
    unittest.main()
