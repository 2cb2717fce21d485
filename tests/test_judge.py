"""Points 8 and 12: which dances are alike, and the papers that tell it."""

import unittest

from ropedance.dances import backward, mirrored
from ropedance.diagrams import colouring, diagram
from ropedance.judge import accepts, judge
from ropedance.least import undo
from ropedance.standard import standard
from ropes import after_moves, dances_up_to, number_by_hand

BIG = 10 ** 30
# From TR, whose number is -1, to U.
ROW = [(0, "", "RTR"), (0, "", "UT"), (1, "TRTRTR", "")]
LONG_DANCES = ("TTTR" * 100, "UUURTRTTTTR" * 40, "TTUURUR" * 60, "T" * 400, "R" * 501, "UR" * 300, "TURR" * 90)


def read_by_hand(dance, colours):
    """p and q of the fraction that is read by points 10 and 11; None for what is no colouring or plain."""
    a = b = 0
    c = d = 1
    many = 2
    fits = True
    for letter in dance:
        if letter == "R":
            a, b, c, d = c, a, d, b
            continue
        over, before = (b, d) if letter == "T" else (d, b)
        if many >= len(colours):
            return None
        fits = fits and colours[before] + colours[many] == 2 * colours[over]
        b, d = (many, b) if letter == "T" else (d, many)
        many += 1
    if not fits or many != len(colours) or len(set(colours)) == 1:
        return None
    return colours[b] - colours[a], colours[b] - colours[d]


def accepted_by_hand(one, other, paper):
    """Point 12."""
    if paper[0] == "alike":
        return after_moves(one, paper[1]) == other
    first, second = read_by_hand(one, paper[1]), read_by_hand(other, paper[2])
    return bool(first and second) and first[0] * second[1] != first[1] * second[0]


class JudgeTest(unittest.TestCase):
    def assert_judged(self, one, other):
        paper = judge(one, other)
        self.assertIs(type(paper), tuple)
        kind = "alike" if number_by_hand(one) == number_by_hand(other) else "apart"
        self.assertEqual(paper[0], kind)
        if kind == "alike":
            self.assertEqual(len(paper), 2)
            self.assertIs(type(paper[1]), list)
            for move in paper[1]:
                self.assertIs(type(move), tuple)
                self.assertEqual([type(part) for part in move], [int, str, str])
        else:
            self.assertEqual(len(paper), 3)
            for colours in paper[1:]:
                self.assertIs(type(colours), list)
                self.assertEqual({type(colour) for colour in colours}, {int})
        self.assertIs(accepted_by_hand(one, other, paper), True)
        self.assertIs(accepts(one, other, paper), True)

    def test_all_pairs_of_short_dances(self):
        short = dances_up_to(4)
        for one in short:
            for other in short:
                self.assert_judged(one, other)

    def test_longer_dances_with_the_least_ones_that_are_alike(self):
        for dance in dances_up_to(7)[::3]:
            self.assert_judged(dance, backward(undo(dance)))
            self.assert_judged(backward(undo(dance)), dance)

    def test_a_dance_and_itself(self):
        for dance in dances_up_to(4) + list(LONG_DANCES):
            self.assertEqual(judge(dance, dance)[0], "alike")
            self.assert_judged(dance, dance)

    def test_alike_though_far_apart_in_letters(self):
        for dance in LONG_DANCES:
            pair = number_by_hand(dance)
            self.assert_judged(dance, standard(pair))
            self.assert_judged(standard(pair), dance)
            self.assert_judged(dance, "RTR" * 50 + dance + "RR" * 30)
            self.assert_judged("", dance + backward(dance))
            self.assert_judged("RTR" * 100, dance + backward(dance))
        self.assert_judged("R", "R" + "T" * 500)
        self.assert_judged("RTTTT", "RUUUU")

    def test_not_alike(self):
        for one, other in (("", "T"), ("", "R"), ("T", "U"), ("TR", "UR"), ("TTR", "TTTR"), ("R", "RR"),
                           ("T" * 300, "T" * 301), ("T" * 300 + "R", "T" * 301 + "R")):
            self.assertEqual(judge(one, other)[0], "apart")
            self.assert_judged(one, other)
        for dance in LONG_DANCES:
            for other in ("", "R", dance + "T", dance + "R", mirrored(dance), dance[:-1]):
                self.assert_judged(dance, other)

    def test_what_is_passed_stays_and_what_is_returned_is_new(self):
        for one, other in (("TR", "U"), ("TT", "U")):
            paper = judge(one, other)
            kept = (paper[0],) + tuple(list(part) for part in paper[1:])
            for part in paper[1:]:
                part.append(5)
                part[0] = 7
            self.assertEqual(judge(one, other), kept)


class AcceptsAlikeTest(unittest.TestCase):
    def assert_accepts(self, one, other, moves, wanted):
        kept = list(moves)
        self.assertIs(accepts(one, other, ("alike", moves)), wanted)
        self.assertEqual(moves, kept)

    def test_the_empty_list(self):
        for dance in dances_up_to(3):
            self.assert_accepts(dance, dance, [], True)
            self.assert_accepts(dance, dance + "RR", [], False)
        self.assert_accepts("TU", "", [], False)

    def test_a_row_of_moves(self):
        self.assert_accepts("TR", "U", ROW, True)
        self.assert_accepts("TU", "RR", [(0, "TU", ""), (0, "", "RR")], True)

    def test_other_dances(self):
        for dance in dances_up_to(3):
            self.assert_accepts("TR", dance, ROW, dance == "U")
            self.assert_accepts(dance, "U", ROW, dance == "TR")
        self.assert_accepts("U", "TR", ROW, False)

    def test_one_left_out_or_put_in_twice(self):
        for k in range(len(ROW)):
            self.assert_accepts("TR", "U", ROW[:k] + ROW[k + 1:], False)
            self.assert_accepts("TR", "U", ROW[:k + 1] + ROW[k:], False)

    def test_another_one(self):
        for k in range(len(ROW)):
            for other in ((0, "", "RR"), (5, "", "RR"), (0, "RTR", ""), (-1, "", "TU"), (0, "", "TU"), (BIG, "", "UT")):
                self.assert_accepts("TR", "U", ROW[:k] + [other] + ROW[k + 1:], False)

    def test_a_tuple_that_is_no_move(self):
        for wrong in ((0, "", ""), (0, "TU", "UT"), (0, "", "T"), (1, "", "RTR"), (0, "U", ""), (0, "x", "")):
            for k in range(len(ROW) + 1):
                self.assert_accepts("TR", "U", ROW[:k] + [wrong] + ROW[k:], False)
        self.assert_accepts("TU", "TU", [(0, "", "")], False)
        self.assert_accepts("T", "", [(0, "T", "")], False)

    def test_a_wrong_row_for_dances_that_are_alike_or_not(self):
        self.assert_accepts("", "T", [(0, "", "TU")], False)
        self.assert_accepts("", "TU", [(0, "", "UT")], False)
        self.assert_accepts("", "TU", [(0, "", "TU")], True)

    def test_papers_of_judge_for_other_dances(self):
        moves = judge("TTRTU", "TTR")[1]
        self.assert_accepts("TTRTU", "TTR", moves, True)
        self.assert_accepts("TTRTU", "TTRRR", moves, False)
        self.assert_accepts("TTRTT", "TTR", moves, False)


class AcceptsApartTest(unittest.TestCase):
    def assert_accepts(self, one, other, first, second, wanted):
        kept = list(first), list(second)
        self.assertIs(accepts(one, other, ("apart", first, second)), wanted)
        self.assertIs(accepted_by_hand(one, other, ("apart", first, second)), wanted)
        self.assertEqual((first, second), kept)

    def test_any_colours_that_are_not_plain(self):
        for one, other in (("", "T"), ("TTR", "UUR"), ("TTRUU", "TTRUUU"), ("R", "")):
            for first in ((0, 1), (1, 0), (-7, 12), (BIG, -BIG)):
                for second in ((0, 1), (5, 4), (6, -6), (BIG, 0)):
                    self.assert_accepts(one, other, colouring(one, *first), colouring(other, *second), True)

    def test_all_pairs_of_short_dances(self):
        for one in dances_up_to(3):
            for other in dances_up_to(3):
                wanted = number_by_hand(one) != number_by_hand(other)
                self.assert_accepts(one, other, colouring(one, 0, 1), colouring(other, 4, 2), wanted)

    def test_equal_fractions(self):
        self.assert_accepts("", "", [0, 1], [5, 9], False)
        self.assert_accepts("T", "T", [0, 1, -1], [0, 2, -2], False)
        self.assert_accepts("TU", "", colouring("TU", 0, 1), [0, 1], False)
        self.assert_accepts("R", "RTTT", [0, 1], colouring("RTTT", 3, 1), False)
        self.assert_accepts("TTRTU", "TTR", colouring("TTRTU", 0, 1), colouring("TTR", 0, -1), False)
        for dance in LONG_DANCES:
            self.assert_accepts(dance, dance, colouring(dance, 0, 1), colouring(dance, 3, -2), False)

    def test_plain_ones(self):
        for colour in (0, 1, -BIG):
            for one, other in (("", "T"), ("TTR", "UUR"), ("R", "TT")):
                plain_one = [colour] * diagram(one)[0]
                plain_other = [colour] * diagram(other)[0]
                self.assert_accepts(one, other, plain_one, colouring(other, 0, 1), False)
                self.assert_accepts(one, other, colouring(one, 0, 1), plain_other, False)
                self.assert_accepts(one, other, plain_one, plain_other, False)

    def test_no_colourings(self):
        one, other = "TTR", "TTRUU"
        first, second = colouring(one, 0, 1), colouring(other, 0, 1)
        self.assert_accepts(one, other, first, second, True)
        for k in range(len(first)):
            self.assert_accepts(one, other, first[:k] + [first[k] + 1] + first[k + 1:], second, False)
        for k in range(len(second)):
            self.assert_accepts(one, other, first, second[:k] + [second[k] - 1] + second[k + 1:], False)

    def test_too_short_too_long_or_empty(self):
        for one, other in (("", "T"), ("TTR", "TTRUU"), ("R", "TT")):
            first, second = colouring(one, 0, 1), colouring(other, 0, 1)
            for wrong in ([], first[:1], first[:-1], first + [first[-1]], first + [0], first * 2):
                self.assert_accepts(one, other, wrong, second, False)
            for wrong in ([], second[:1], second[:-1], second + [second[-1]], second + [0], second * 2):
                self.assert_accepts(one, other, first, wrong, False)
            self.assert_accepts(one, other, [], [], False)

    def test_both_lists_exchanged(self):
        for one, other in (("T", "U"), ("", "T"), ("TTR", "TTRUU"), ("TTR", "UUR")):
            first, second = colouring(one, 0, 1), colouring(other, 0, 1)
            self.assert_accepts(one, other, first, second, True)
            self.assert_accepts(one, other, second, first, False)
            self.assert_accepts(other, one, second, first, True)
            self.assert_accepts(other, one, first, second, False)
        # These have the same arcs and crossings: each list fits both.
        self.assert_accepts("", "R", [0, 1], [4, 9], True)
        self.assert_accepts("", "R", [4, 9], [0, 1], True)

    def test_long_dances(self):
        for dance in LONG_DANCES:
            for other in ("", dance + "T", dance + "R"):
                wanted = number_by_hand(dance) != number_by_hand(other)
                self.assert_accepts(dance, other, colouring(dance, 2, 7), colouring(other, 0, 1), wanted)


class AlikeTest(unittest.TestCase):
    """Point 8: each move leads to a dance that is alike."""

    def test_one_move_further(self):
        for dance in dances_up_to(4):
            for place in range(len(dance) + 1):
                for word in ("TU", "UT", "RR", "TRTRTR") + (("RTR",) if place == 0 else ()):
                    other = dance[:place] + word + dance[place:]
                    self.assertEqual(judge(dance, other)[0], "alike")
                    self.assertEqual(judge(other, dance)[0], "alike")
                    self.assertIs(accepts(dance, other, ("alike", [(place, "", word)])), True)
                    self.assertIs(accepts(other, dance, ("alike", [(place, word, "")])), True)

    def test_words_that_are_no_moves_lead_elsewhere(self):
        for word in ("T", "U", "R", "TT", "TR", "UR", "RT", "TRT"):
            self.assertEqual(judge("TTR", "TTR" + word)[0], "apart")


if __name__ == "__main__":
    unittest.main()
