"""Point 16: the places of all fractions."""

import unittest
from math import gcd

from ropedance.errors import BadMove, BadText, NoDance, NoFraction, RopeError
from ropedance.fractions import after, from_quotients, less
from ropedance.least import steps
from ropedance.order import fraction_at, fractions_with, place
from ropes import INFINITE, ascending, fibonacci, walk

BIG = 10 ** 30
LAYERS = [ascending(layer) for layer in walk(13)]
IN_ORDER = [pair for layer in LAYERS for pair in layer]
BIG_PLACES = [BIG, BIG + 1, 7 * BIG - 1, BIG ** 3 + 12345, 2 ** 200, 3 ** 300 - 1, 10 ** 1000 + 7, 9 * 10 ** 2000 + 13]


class FractionsWithTest(unittest.TestCase):
    def test_examples(self):
        for step_count, wanted in (
                (0, [(0, 1)]), (1, [(-1, 1), (1, 1), INFINITE]), (2, [(-2, 1), (2, 1)]),
                (3, [(-3, 1), (-1, 2), (1, 2), (3, 1)]), (4, [(-4, 1), (-3, 2), (-1, 3), (1, 3), (3, 2), (4, 1)])):
            self.assertEqual(fractions_with(step_count), wanted)

    def test_all_fractions_with_few_steps(self):
        for step_count, wanted in enumerate(LAYERS):
            given = fractions_with(step_count)
            self.assertIs(type(given), list)
            self.assertEqual(given, wanted)
            for pair in given:
                self.assertIs(type(pair), tuple)
                self.assertEqual([type(part) for part in pair], [int, int])

    def test_more_steps(self):
        found = fractions_with(19)
        self.assertEqual(len(found), 2 * fibonacci(19))
        for k in range(0, len(found) - 1, 37):
            self.assertEqual(steps(found[k]), 19)
            self.assertIs(less(found[k], found[k + 1]), True)

    def test_negative_numbers(self):
        for step_count in (-1, -2, -3, -100, -BIG):
            given = fractions_with(step_count)
            self.assertIs(type(given), list)
            self.assertEqual(given, [])

    def test_each_call_returns_its_own_list(self):
        for step_count in (-1, 0, 1, 2, 3, 7):
            kept = fractions_with(step_count)
            wanted = list(kept)
            kept.append((99, 1))
            kept[0] = (77, 2)
            self.assertEqual(fractions_with(step_count), wanted)
            for lower in range(max(step_count, 0) + 3):
                self.assertEqual(fractions_with(lower), LAYERS[lower])
        self.assertEqual([fraction_at(k) for k in range(10)], IN_ORDER[:10])
        self.assertEqual([place(pair) for pair in IN_ORDER[:10]], list(range(10)))


class PlaceTest(unittest.TestCase):
    def assert_place(self, pair, wanted):
        given = place(pair)
        self.assertIs(type(given), int)
        # Numbers with very many digits could not be shown.
        self.assertTrue(given == wanted)

    def test_examples(self):
        for k, pair in enumerate(((0, 1), (-1, 1), (1, 1), INFINITE, (-2, 1), (2, 1), (-3, 1), (-1, 2), (1, 2), (3, 1),
                                  (-4, 1), (-3, 2), (-1, 3), (1, 3), (3, 2), (4, 1), (-5, 1))):
            self.assert_place(pair, k)

    def test_all_fractions_with_few_steps(self):
        for k, pair in enumerate(IN_ORDER):
            self.assert_place(pair, k)

    def test_integers(self):
        # They are the least and the greatest one with their steps.
        for n in (2, 3, 10, 100, 1000, 20000):
            self.assert_place((-n, 1), 2 * fibonacci(n + 1))
            self.assert_place((n, 1), 2 * fibonacci(n + 2) - 1)

    def test_next_to_zero(self):
        # Of the fractions with as many steps these two stand in the middle.
        for n in (2, 3, 10, 100, 1000, 20000):
            self.assert_place((1, n), 2 * fibonacci(n + 2) + fibonacci(n + 1))
            self.assert_place((-1, n), 2 * fibonacci(n + 2) + fibonacci(n + 1) - 1)

    def test_it_goes_with_steps_and_size(self):
        pairs = [from_quotients([a, 1, 1, 2, b, 1] * 20 + [7]) for a in (1, 2, 3) for b in (1, 2, 3)]
        pairs += [from_quotients([c] + [a, b] * 20 + [7]) for c in (0, 5) for a in (1, 2) for b in (1, 4)]
        pairs += [(-p, q) for p, q in pairs] + [after(pair, letter) for pair in pairs for letter in "TUR"]
        places = {pair: place(pair) for pair in pairs}
        for one in pairs:
            for other in pairs:
                earlier = less(one, other) if steps(one) == steps(other) else steps(one) < steps(other)
                self.assertEqual(places[one] < places[other], earlier)


class FractionAtTest(unittest.TestCase):
    def test_all_fractions_with_few_steps(self):
        for k, pair in enumerate(IN_ORDER):
            given = fraction_at(k)
            self.assertIs(type(given), tuple)
            self.assertEqual([type(part) for part in given], [int, int])
            self.assertEqual(given, pair)

    def test_first_and_last_places_with_so_many_steps(self):
        for n in (2, 3, 10, 100, 1000):
            self.assertEqual(fraction_at(2 * fibonacci(n + 1)), (-n, 1))
            self.assertEqual(fraction_at(2 * fibonacci(n + 2) - 1), (n, 1))
            self.assertEqual(fraction_at(2 * fibonacci(n + 2)), (-n - 1, 1))

    def test_places_of_many_digits_there_and_back(self):
        for middle in BIG_PLACES:
            for wanted in range(middle - 3, middle + 4):
                pair = fraction_at(wanted)
                self.assertEqual(gcd(*pair), 1)
                self.assertGreater(pair[1], 0)
                self.assertTrue(place(pair) == wanted)
                # As many fractions have fewer steps as stand in front of the first one with as many.
                step_count = steps(pair)
                self.assertTrue(2 * fibonacci(step_count + 1) <= wanted < 2 * fibonacci(step_count + 2))

    def test_neighbours_with_places_of_many_digits(self):
        for middle in BIG_PLACES + [2 * fibonacci(n) for n in (100, 400)]:
            for k in range(middle - 3, middle + 3):
                one, other = fraction_at(k), fraction_at(k + 1)
                if steps(one) == steps(other):
                    self.assertIs(less(one, other), True)
                else:
                    self.assertEqual(steps(one) + 1, steps(other))

    def test_fractions_of_many_digits_there_and_back(self):
        for row in ([0] + [1] * 300 + [2], [3, 1, 1, 2, 1] * 60 + [5], [50, 1, 40, 1] * 10 + [2], [0, 600], [600, 600]):
            p, q = from_quotients(row)
            self.assertEqual(fraction_at(place((p, q))), (p, q))
            self.assertEqual(fraction_at(place((-p, q))), (-p, q))

    def test_negative_places(self):
        for wrong in (-1, -2, -3, -4, -5, -100, -BIG):
            with self.assertRaises(NoFraction) as caught:
                fraction_at(wrong)
            self.assertIs(type(caught.exception), NoFraction)
            self.assertIsInstance(caught.exception, RopeError)
            self.assertIsInstance(caught.exception, ValueError)
            for other in (BadMove, BadText, NoDance):
                self.assertNotIsInstance(caught.exception, other)


if __name__ == "__main__":
    unittest.main()
