"""Points 10, 11 and 13: diagrams, their colourings, and what is read from them."""

import unittest
from itertools import product
from math import gcd

from ropedance.dances import number
from ropedance.diagrams import colour_count, colouring, diagram, is_colouring, reading
from ropedance.standard import standard
from ropes import WAYS, dances_up_to

BIG = 10 ** 30
LONG_DANCES = ("TTTR" * 100, "UUURTRTTTTR" * 40, "TTUURUR" * 60, "T" * 500, "R" * 501)
FRACTIONS = [(p, q) for q in range(1, 8) for p in range(-9, 10) if gcd(p, q) == 1]


def closed_colourings(dance, way, n):
    """All colourings with n colours of the closed diagram, found one by one (point 13)."""
    arc_count, crossings, (nw, ne, sw, se) = diagram(dance)
    ties = ((nw, ne), (sw, se)) if way == "across" else ((nw, sw), (ne, se))
    found = []
    for colours in product(range(n), repeat=arc_count):
        if any((colours[before] + colours[behind] - 2 * colours[over]) % n for over, before, behind in crossings):
            continue
        if all(colours[one] == colours[other] for one, other in ties):
            found.append(colours)
    return found


def counted_by_two_colours(dance, way, n):
    """As many, counted by the colours of the arcs 0 and 1, which give the others."""
    _, crossings, (nw, ne, sw, se) = diagram(dance)
    many = 0
    for first, second in product(range(n), repeat=2):
        colours = [first, second]
        for over, before, _ in crossings:
            colours.append((2 * colours[over] - colours[before]) % n)
        if way == "across":
            many += colours[nw] == colours[ne] and colours[sw] == colours[se]
        else:
            many += colours[nw] == colours[sw] and colours[ne] == colours[se]
    return many


class DiagramTest(unittest.TestCase):
    def test_the_empty_dance(self):
        self.assertEqual(diagram(""), (2, [], (0, 0, 1, 1)))

    def test_each_letter_alone(self):
        self.assertEqual(diagram("T"), (3, [(0, 1, 2)], (0, 2, 1, 0)))
        self.assertEqual(diagram("U"), (3, [(1, 0, 2)], (0, 1, 1, 2)))
        self.assertEqual(diagram("R"), (2, [], (1, 0, 1, 0)))

    def test_two_letters(self):
        for dance, wanted in (
                ("TT", (4, [(0, 1, 2), (2, 0, 3)], (0, 3, 1, 2))),
                ("TU", (4, [(0, 1, 2), (0, 2, 3)], (0, 0, 1, 3))),
                ("TR", (3, [(0, 1, 2)], (1, 0, 0, 2))),
                ("UT", (4, [(1, 0, 2), (1, 2, 3)], (0, 3, 1, 1))),
                ("UU", (4, [(1, 0, 2), (2, 1, 3)], (0, 2, 1, 3))),
                ("UR", (3, [(1, 0, 2)], (1, 0, 2, 1))),
                ("RT", (3, [(0, 0, 2)], (1, 2, 1, 0))),
                ("RU", (3, [(0, 0, 2)], (1, 0, 1, 2))),
                ("RR", (2, [], (1, 1, 0, 0)))):
            with self.subTest(dance=dance):
                self.assertEqual(diagram(dance), wanted)

    def test_more_letters(self):
        self.assertEqual(diagram("TRT"), (4, [(0, 1, 2), (0, 2, 3)], (1, 3, 0, 0)))
        self.assertEqual(diagram("RRR"), (2, [], (0, 1, 0, 1)))
        self.assertEqual(diagram("RRRR"), (2, [], (0, 0, 1, 1)))
        self.assertEqual(diagram("TTRU"), (5, [(0, 1, 2), (2, 0, 3), (3, 0, 4)], (1, 3, 2, 4)))
        self.assertEqual(diagram("TTRT"), (5, [(0, 1, 2), (2, 0, 3), (0, 3, 4)], (1, 4, 2, 0)))

    def test_a_letter_more_letter_by_letter(self):
        for dance in dances_up_to(6) + list(LONG_DANCES):
            n, crossings, (a, b, c, d) = diagram(dance)
            self.assertEqual(diagram(dance + "T"), (n + 1, crossings + [(b, d, n)], (a, n, c, b)))
            self.assertEqual(diagram(dance + "U"), (n + 1, crossings + [(d, b, n)], (a, d, c, n)))
            self.assertEqual(diagram(dance + "R"), (n, crossings, (c, a, d, b)))

    def test_the_kinds_of_values(self):
        for dance in ("", "R", "TUR", "UURTT"):
            told = diagram(dance)
            self.assertIs(type(told), tuple)
            arc_count, crossings, ends = told
            self.assertIs(type(arc_count), int)
            self.assertIs(type(crossings), list)
            self.assertIs(type(ends), tuple)
            self.assertEqual([type(arc) for arc in ends], [int] * 4)
            for crossing in crossings:
                self.assertIs(type(crossing), tuple)
                self.assertEqual([type(arc) for arc in crossing], [int] * 3)

    def test_a_later_change_of_the_list_has_no_effect(self):
        for dance in ("", "R", "TTRU"):
            kept = diagram(dance)[1]
            wanted = list(kept)
            kept.append((0, 0, 0))
            kept[0] = (5, 5, 5)
            self.assertEqual(diagram(dance)[1], wanted)
            self.assertIs(is_colouring(dance, colouring(dance, 3, 5)), True)


class ColouringTest(unittest.TestCase):
    def test_examples(self):
        self.assertEqual(colouring("", 3, 7), [3, 7])
        self.assertEqual(colouring("RR", 3, 7), [3, 7])
        self.assertEqual(colouring("T", 0, 1), [0, 1, -1])
        self.assertEqual(colouring("U", 0, 1), [0, 1, 2])
        self.assertEqual(colouring("TT", 0, 1), [0, 1, -1, -2])
        self.assertEqual(colouring("TTRU", 10, 7), [10, 7, 13, 16, 22])
        self.assertEqual(colouring("RT", 5, 1), [5, 1, 5])

    def test_plain_ones(self):
        for dance in dances_up_to(4):
            for colour in (0, 1, -4, BIG):
                self.assertEqual(colouring(dance, colour, colour), [colour] * diagram(dance)[0])

    def test_it_is_one_with_the_two_colours(self):
        for dance in dances_up_to(6) + list(LONG_DANCES):
            for first, second in ((0, 1), (1, 0), (-5, 3), (BIG, -BIG), (2, 2)):
                colours = colouring(dance, first, second)
                self.assertIs(type(colours), list)
                self.assertEqual(colours[:2], [first, second])
                self.assertEqual(len(colours), diagram(dance)[0])
                self.assertEqual([type(colour) for colour in colours], [int] * len(colours))
                for over, before, behind in diagram(dance)[1]:
                    self.assertEqual(colours[before] + colours[behind], 2 * colours[over])
                self.assertIs(is_colouring(dance, colours), True)

    def test_each_call_returns_its_own_list(self):
        for dance in ("", "TTRU"):
            kept = colouring(dance, 0, 1)
            wanted = list(kept)
            kept[0] = 99
            kept.append(5)
            self.assertEqual(colouring(dance, 0, 1), wanted)


class IsColouringTest(unittest.TestCase):
    def test_examples(self):
        self.assertIs(is_colouring("T", [0, 1, -1]), True)
        self.assertIs(is_colouring("T", [0, 1, 2]), False)
        self.assertIs(is_colouring("U", [0, 1, 2]), True)
        self.assertIs(is_colouring("U", [0, 1, -1]), False)
        self.assertIs(is_colouring("", [4, -9]), True)
        self.assertIs(is_colouring("R", [4, -9]), True)

    def test_plain_ones_are_colourings(self):
        for dance in dances_up_to(4):
            for colour in (0, 7, -BIG):
                self.assertIs(is_colouring(dance, [colour] * diagram(dance)[0]), True)

    def test_the_empty_list(self):
        for dance in dances_up_to(3):
            self.assertIs(is_colouring(dance, []), False)

    def test_too_few_or_too_many(self):
        for dance in dances_up_to(4) + ["TTTRTTRUU"]:
            for first, second in ((0, 1), (3, 3)):
                colours = colouring(dance, first, second)
                self.assertIs(is_colouring(dance, colours[:-1]), False)
                self.assertIs(is_colouring(dance, colours[1:]), False)
                self.assertIs(is_colouring(dance, colours + [colours[-1]]), False)
                self.assertIs(is_colouring(dance, colours[:1] + colours), False)
                self.assertIs(is_colouring(dance, colours * 2), False)
                self.assertIs(is_colouring(dance, [colours[0]]), False)

    def test_one_colour_left_out_or_put_in_twice(self):
        dance = "TTRUUUTRT"
        colours = colouring(dance, 2, 9)
        for k in range(len(colours)):
            self.assertIs(is_colouring(dance, colours[:k] + colours[k + 1:]), False)
            self.assertIs(is_colouring(dance, colours[:k + 1] + colours[k:]), False)

    def test_one_colour_changed(self):
        for dance in dances_up_to(4) + ["TTRUUUTRT"]:
            crossings = diagram(dance)[1]
            for k in range(diagram(dance)[0]):
                for change in (1, -1, 2, BIG):
                    colours = colouring(dance, 2, 9)
                    colours[k] += change
                    # No crossing, or one that has the arc as before and over, says nothing of it.
                    fits = all(colours[before] + colours[behind] == 2 * colours[over]
                               for over, before, behind in crossings)
                    self.assertIs(is_colouring(dance, colours), fits)
        self.assertIs(is_colouring("TTR", [2, 9, -5, -13]), False)
        self.assertIs(is_colouring("TTR", [2, 9, -5, -12]), True)
        self.assertIs(is_colouring("TTR", [2, 9, -4, -12]), False)
        self.assertIs(is_colouring("TTR", [2, 8, -5, -12]), False)
        self.assertIs(is_colouring("TTR", [3, 9, -5, -12]), False)

    def test_all_small_lists(self):
        for dance in dances_up_to(3):
            for many in range(1, 5):
                for colours in product((-1, 0, 1, 2), repeat=many):
                    wanted = many == diagram(dance)[0] and list(colours) == colouring(dance, *colours[:2])
                    self.assertIs(is_colouring(dance, list(colours)), wanted)

    def test_only_all_crossings_will_do(self):
        # Twice the colour is divisible by 2 and by 3, but it is not the sum.
        self.assertIs(is_colouring("T", [0, 1, 1]), False)
        self.assertIs(is_colouring("T", [0, 1, 2]), False)
        dance = "T" * 500
        colours = colouring(dance, 0, 1)
        self.assertIs(is_colouring(dance, colours), True)
        colours[-1] += 1
        self.assertIs(is_colouring(dance, colours), False)

    def test_the_list_stays_as_it_was(self):
        for colours in ([0, 1, -1], [0, 1, 5], [3, 3, 3], []):
            kept = list(colours)
            is_colouring("T", colours)
            reading("T", colours)
            self.assertEqual(colours, kept)


class ReadingTest(unittest.TestCase):
    def assert_reading(self, dance, colours, wanted):
        given = reading(dance, colours)
        self.assertIs(type(given), tuple)
        self.assertEqual([type(part) for part in given], [int, int])
        self.assertEqual(given, wanted)

    def test_examples(self):
        self.assert_reading("", [0, 1], (0, 1))
        self.assert_reading("", [5, -5], (0, 1))
        self.assert_reading("T", [0, 1, -1], (1, 1))
        self.assert_reading("U", [0, 1, 2], (-1, 1))
        self.assert_reading("TT", [0, 1, -1, -2], (2, 1))
        self.assert_reading("TTR", [2, 9, -5, -12], (-1, 2))
        self.assert_reading("TTRU", [10, 7, 13, 16, 22], (-3, 2))

    def test_infinite(self):
        self.assert_reading("R", [0, 1], (1, 0))
        self.assert_reading("R", [1, 0], (1, 0))
        self.assert_reading("R", [-6, 6], (1, 0))
        self.assert_reading("RT", [5, 1, 5], (1, 0))
        self.assert_reading("TRTR", colouring("TRTR", 4, 9), (1, 0))

    def test_it_is_in_lowest_terms_with_many_digits(self):
        for first, second in ((0, BIG), (BIG, 0), (-6, 6), (BIG, -BIG), (1, 7)):
            for dance in ("", "T", "UUR", "TTRTTTR", "TTTRTTRUU"):
                self.assert_reading(dance, colouring(dance, first, second), number(dance))

    def test_every_colouring_that_is_not_plain_gives_the_number(self):
        for dance in dances_up_to(6) + list(LONG_DANCES):
            for first, second in ((0, 1), (1, 0), (-2, 7)):
                self.assert_reading(dance, colouring(dance, first, second), number(dance))

    def test_standard_dances(self):
        for fraction in FRACTIONS + [(1, 0)]:
            dance = standard(fraction)
            self.assert_reading(dance, colouring(dance, 3, 1), fraction)

    def test_none_for_plain_ones(self):
        for dance in dances_up_to(4):
            for colour in (0, 1, -8, BIG):
                self.assertIsNone(reading(dance, [colour] * diagram(dance)[0]))

    def test_none_for_what_is_no_colouring(self):
        for dance in dances_up_to(4):
            colours = colouring(dance, 0, 1)
            self.assertIsNone(reading(dance, []))
            self.assertIsNone(reading(dance, [1]))
            self.assertIsNone(reading(dance, colours[:-1]))
            self.assertIsNone(reading(dance, colours + [0]))
            self.assertIsNone(reading(dance, [5] * (len(colours) + 1)))
            self.assertIsNone(reading(dance, [5] * (len(colours) - 1)))
        self.assertIsNone(reading("T", [0, 1, 2]))
        self.assertIsNone(reading("U", [0, 1, -1]))
        self.assertIsNone(reading("TTR", [2, 9, -5, -13]))
        self.assertIsNone(reading("TTR", [5, 5, 5, 6]))


class ColourCountTest(unittest.TestCase):
    def assert_count(self, dance, way, n, wanted):
        given = colour_count(dance, way, n)
        self.assertIs(type(given), int)
        self.assertEqual(given, wanted, (dance, way, n))

    def test_examples(self):
        # The empty dance closed across gives two ropes apart, closed down one.
        for n in range(1, 20):
            self.assert_count("", "across", n, n * n)
            self.assert_count("", "down", n, n)
            self.assert_count("R", "across", n, n)
            self.assert_count("R", "down", n, n * n)
        # Three twists closed across give a knot that three colours show.
        self.assert_count("TTT", "across", 2, 2)
        self.assert_count("TTT", "across", 3, 9)
        self.assert_count("TTT", "across", 6, 18)
        self.assert_count("TTT", "down", 3, 3)
        self.assert_count("UU", "across", 2, 4)
        self.assert_count("TTR", "down", 2, 4)
        self.assert_count("TTR", "across", 2, 2)

    def test_one_colour(self):
        for dance in dances_up_to(4) + list(LONG_DANCES):
            for way in WAYS:
                self.assert_count(dance, way, 1, 1)

    def test_short_dances_with_all_lists_of_colours(self):
        for dance in dances_up_to(4):
            for way in WAYS:
                for n in range(1, 5 if diagram(dance)[0] < 5 else 4):
                    self.assert_count(dance, way, n, len(closed_colourings(dance, way, n)))
        for dance in ("TTT", "UUU", "TTRU", "UURT", "TRTT"):
            for way in WAYS:
                self.assert_count(dance, way, 5, len(closed_colourings(dance, way, 5)))

    def test_longer_dances_by_two_colours(self):
        for dance in dances_up_to(5)[::3] + ["TTTRTTRUU", "UUURUUTTR", "TTTTTTRTTTTR", "TTRURTTTRUUR"]:
            for way in WAYS:
                for n in (1, 2, 3, 4, 5, 6, 8, 9, 12):
                    self.assert_count(dance, way, n, counted_by_two_colours(dance, way, n))

    def test_long_dances_by_two_colours(self):
        for dance in LONG_DANCES:
            for way in WAYS:
                for n in (2, 3, 6, 10):
                    self.assert_count(dance, way, n, counted_by_two_colours(dance, way, n))

    def test_standard_dances_by_two_colours(self):
        for fraction in FRACTIONS[::3]:
            for way in WAYS:
                for n in (2, 3, 6, 7, 8):
                    dance = standard(fraction)
                    self.assert_count(dance, way, n, counted_by_two_colours(dance, way, n))

    def test_many_colours(self):
        self.assert_count("TTT", "across", 3 * BIG, 9 * BIG)
        self.assert_count("TTT", "across", 3 * BIG + 1, 3 * BIG + 1)
        self.assert_count("T" * 1000, "across", BIG, 1000 * BIG)
        self.assert_count("", "across", BIG, BIG * BIG)
        self.assert_count("T" * 1000, "down", BIG, BIG)


if __name__ == "__main__":
    unittest.main()
