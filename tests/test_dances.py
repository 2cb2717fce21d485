"""Points 5, 6, 13 and 14: dances, their numbers, joined ends and pieces."""

import unittest

from ropedance.dances import backward, is_dance, mirrored, number, partner, pieces
from ropedance.fractions import after
from ropes import WAYS, closed_ropes, dances_up_to, joined_ends

LONG_DANCES = ("TTTR" * 250, "UUURTRTTTTR" * 91, "TTUURUR" * 143, "T" * 999, "R" * 1001)


class IsDanceTest(unittest.TestCase):
    def test_dances(self):
        for dance in dances_up_to(4) + list(LONG_DANCES):
            self.assertIs(is_dance(dance), True)

    def test_the_empty_string(self):
        self.assertIs(is_dance(""), True)

    def test_small_letters(self):
        for text in ("t", "u", "r", "tur", "TuR", "TUr", "tUR"):
            self.assertIs(is_dance(text), False)

    def test_blanks(self):
        for text in (" ", "  ", "T U", " T", "T ", " TUR", "TUR "):
            self.assertIs(is_dance(text), False)

    def test_every_other_character_in_any_place(self):
        others = [chr(code) for code in range(32, 127) if chr(code) not in "TUR%"]
        self.assertEqual(len(others), 91)
        for sign in others:
            for text in (sign, sign + "TUR", "TU" + sign + "R", "TUR" + sign, sign * 3):
                self.assertIs(is_dance(text), False, text)

    def test_texts_of_runs_and_lines(self):
        for text in ("T2", "T2 R", "-", "TUR-", "0 - TU"):
            self.assertIs(is_dance(text), False)


class NumberTest(unittest.TestCase):
    def assert_number(self, dance, wanted):
        given = number(dance)
        self.assertIs(type(given), tuple)
        self.assertEqual([type(part) for part in given], [int, int])
        self.assertEqual(given, wanted)

    def test_short_dances(self):
        for dance, wanted in (
                ("", (0, 1)), ("T", (1, 1)), ("U", (-1, 1)), ("R", (1, 0)), ("RT", (1, 0)), ("RU", (1, 0)),
                ("RR", (0, 1)), ("TR", (-1, 1)), ("UR", (1, 1)), ("TTR", (-1, 2)), ("UUR", (1, 2)),
                ("TTRT", (1, 2)), ("TTRTTTR", (-2, 5)), ("TU", (0, 1)), ("TRTRTR", (0, 1))):
            with self.subTest(dance=dance):
                self.assert_number(dance, wanted)

    def test_it_is_where_zero_is_led_letter_by_letter(self):
        for dance in dances_up_to(6) + list(LONG_DANCES):
            led = (0, 1)
            for letter in dance:
                led = after(led, letter)
            self.assert_number(dance, led)

    def test_runs(self):
        self.assert_number("T" * 5000, (5000, 1))
        self.assert_number("U" * 5000, (-5000, 1))


class BackwardTest(unittest.TestCase):
    def test_examples(self):
        for dance, wanted in (("", ""), ("T", "U"), ("U", "T"), ("R", "R"), ("TR", "RU"), ("TTU", "TUU"),
                              ("TTRU", "TRUU"), ("RRT", "URR")):
            self.assertEqual(backward(dance), wanted)

    def test_letter_by_letter(self):
        for dance in dances_up_to(6) + list(LONG_DANCES):
            turned = backward(dance)
            self.assertIs(type(turned), str)
            self.assertEqual(len(turned), len(dance))
            for k, letter in enumerate(dance):
                self.assertEqual(turned[len(dance) - 1 - k], {"T": "U", "U": "T", "R": "R"}[letter])

    def test_behind_the_dance_it_leads_back(self):
        for pair in ((0, 1), (1, 0), (1, 1), (-4, 1), (2, 7), (-7, 3)):
            for dance in dances_up_to(5) + list(LONG_DANCES):
                self.assertEqual(after(after(pair, dance), backward(dance)), pair)
                self.assertEqual(after(after(pair, backward(dance)), dance), pair)


class MirroredTest(unittest.TestCase):
    def test_examples(self):
        for dance, wanted in (("", ""), ("T", "U"), ("U", "T"), ("R", "R"), ("TR", "UR"), ("TTU", "UUT"),
                              ("TTRU", "UURT")):
            self.assertEqual(mirrored(dance), wanted)

    def test_letter_by_letter(self):
        for dance in dances_up_to(6) + list(LONG_DANCES):
            given = mirrored(dance)
            self.assertIs(type(given), str)
            self.assertEqual(list(given), [{"T": "U", "U": "T", "R": "R"}[letter] for letter in dance])

    def test_it_leads_zero_to_the_opposite_number(self):
        for dance in dances_up_to(6) + list(LONG_DANCES):
            p, q = number(dance)
            self.assertEqual(number(mirrored(dance)), (p, q) if q == 0 else (-p, q))


class PartnerTest(unittest.TestCase):
    def test_examples(self):
        for dance, wanted in (("", "ne"), ("T", "se"), ("U", "se"), ("R", "sw"), ("TR", "se"), ("UR", "se"),
                              ("RT", "sw"), ("RR", "ne"), ("TT", "ne"), ("TRT", "ne"), ("TTR", "sw")):
            with self.subTest(dance=dance):
                self.assertEqual(partner(dance), wanted)
                self.assertIs(type(partner(dance)), str)

    def test_along_the_ropes(self):
        for dance in dances_up_to(7) + list(LONG_DANCES):
            self.assertEqual(partner(dance), joined_ends(dance)["nw"], dance)


class PiecesTest(unittest.TestCase):
    def test_examples(self):
        for dance, across, down in (("", 2, 1), ("T", 1, 1), ("U", 1, 1), ("R", 1, 2), ("TT", 2, 1),
                                    ("TR", 1, 1), ("RR", 2, 1), ("TTR", 1, 2), ("TRT", 2, 1)):
            with self.subTest(dance=dance):
                self.assertEqual(pieces(dance, "across"), across)
                self.assertEqual(pieces(dance, "down"), down)

    def test_along_the_ropes(self):
        for dance in dances_up_to(7) + list(LONG_DANCES):
            for way in WAYS:
                many = pieces(dance, way)
                self.assertIs(type(many), int)
                self.assertEqual(many, closed_ropes(dance, way), (dance, way))


class ArgumentsTest(unittest.TestCase):
    def test_they_stay_as_they_were(self):
        dance = "TTRU"
        for function in (is_dance, number, backward, mirrored, partner):
            function(dance)
        pieces(dance, "across")
        self.assertEqual(dance, "TTRU")


if __name__ == "__main__":
    unittest.main()
