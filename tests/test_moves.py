"""Points 7 and 8: which tuples are moves, what they make, and where they lead."""

import unittest

from ropedance.errors import BadMove, BadText, NoDance, NoFraction, RopeError
from ropedance.moves import is_move, leads, made
from ropes import dances_up_to

WORDS = ("TU", "UT", "RR", "TRTRTR")
BIG = 10 ** 30
PLACES = (0, 1, 2, 3, 7, 100, BIG, -1, -2, -BIG)
NO_WORDS = ("T", "U", "R", "TT", "UU", "TR", "RT", "RU", "UR", "RRR", "TUT", "TUTU", "RRRR", "RTRT", "TRTR",
            "RUR", "URURUR", "RTRTRT", "TRTRT", "TRTRTRT", "TRTRTRTRTRTR", "tu", "rr", "rtr", "TU ", " TU",
            "T U", "x", "-", " ", "0")


def moves_by_the_words(dance):
    """All moves that can be made on the dance, each with what it makes, by point 7."""
    found = {}
    for place in range(len(dance) + 1):
        front, behind = dance[:place], dance[place:]
        for word in WORDS + (("RTR",) if place == 0 else ()):
            found[place, "", word] = front + word + behind
            if behind.startswith(word):
                found[place, word, ""] = front + behind[len(word):]
    return found


class IsMoveTest(unittest.TestCase):
    def assert_both_ways(self, place, word, wanted):
        self.assertIs(is_move((place, "", word)), wanted, (place, word))
        self.assertIs(is_move((place, word, "")), wanted, (place, word))

    def test_the_four_words_at_any_place(self):
        for word in WORDS:
            for place in PLACES:
                self.assert_both_ways(place, word, True)

    def test_the_fifth_word_only_at_place_zero(self):
        for place in PLACES:
            self.assert_both_ways(place, "RTR", place == 0)

    def test_both_strings_empty(self):
        for place in PLACES:
            self.assertIs(is_move((place, "", "")), False)

    def test_no_string_empty(self):
        words = WORDS + ("RTR",)
        for old in words:
            for new in words + ("T", "x"):
                for place in (0, 1, -1):
                    self.assertIs(is_move((place, old, new)), False)
                    self.assertIs(is_move((place, new, old)), False)

    def test_two_strings_that_are_a_word_together(self):
        for word in WORDS + ("RTR",):
            for k in range(1, len(word)):
                self.assertIs(is_move((0, word[:k], word[k:])), False)

    def test_other_strings(self):
        for word in NO_WORDS:
            for place in (0, 1, 2, -1):
                self.assert_both_ways(place, word, False)

    def test_all_short_strings(self):
        for word in dances_up_to(6):
            self.assert_both_ways(0, word, word in WORDS + ("RTR",))
            self.assert_both_ways(1, word, word in WORDS)


class MadeTest(unittest.TestCase):
    def assert_bad(self, dance, move):
        with self.assertRaises(BadMove) as caught:
            made(dance, move)
        self.assertIs(type(caught.exception), BadMove)
        self.assertIsInstance(caught.exception, RopeError)
        self.assertIsInstance(caught.exception, ValueError)
        for other in (NoFraction, BadText, NoDance):
            self.assertNotIsInstance(caught.exception, other)

    def test_each_word_put_in(self):
        self.assertEqual(made("RT", (1, "", "TU")), "RTUT")
        self.assertEqual(made("RT", (2, "", "UT")), "RTUT")
        self.assertEqual(made("RT", (0, "", "RR")), "RRRT")
        self.assertEqual(made("RT", (1, "", "TRTRTR")), "RTRTRTRT")
        self.assertEqual(made("TU", (0, "", "RTR")), "RTRTU")

    def test_each_word_taken_out(self):
        self.assertEqual(made("RTUT", (1, "TU", "")), "RT")
        self.assertEqual(made("RTUT", (2, "UT", "")), "RT")
        self.assertEqual(made("TRRT", (1, "RR", "")), "TT")
        self.assertEqual(made("UTRTRTRU", (1, "TRTRTR", "")), "UU")
        self.assertEqual(made("RTRTU", (0, "RTR", "")), "TU")

    def test_on_the_empty_dance(self):
        for word in WORDS + ("RTR",):
            self.assertEqual(made("", (0, "", word)), word)
            self.assertEqual(made(word, (0, word, "")), "")
            self.assert_bad("", (0, word, ""))
            self.assert_bad("", (1, "", word))
            self.assert_bad("", (-1, "", word))

    def test_the_fifth_word_at_another_place(self):
        self.assert_bad("TRTR", (1, "RTR", ""))
        self.assert_bad("TRTR", (1, "", "RTR"))
        self.assert_bad("TRTR", (4, "", "RTR"))
        self.assert_bad("TRTR", (0, "RTR", ""))

    def test_the_end_of_the_dance(self):
        for dance in ("", "T", "TUR", "RRTU"):
            for word in WORDS:
                self.assertEqual(made(dance, (len(dance), "", word)), dance + word)
                for beyond in (1, 2, 5, BIG):
                    self.assert_bad(dance, (len(dance) + beyond, "", word))
                    self.assert_bad(dance, (len(dance) + beyond, word, ""))

    def test_only_a_part_of_the_word_stands_at_the_end(self):
        self.assert_bad("RT", (1, "TU", ""))
        self.assert_bad("TR", (1, "RR", ""))
        self.assert_bad("TRTRT", (0, "TRTRTR", ""))
        self.assert_bad("RT", (0, "RTR", ""))
        self.assert_bad("RT", (2, "TU", ""))

    def test_a_negative_place(self):
        for place in (-1, -2, -3, -4, -BIG):
            for word in WORDS:
                self.assert_bad("TURR", (place, "", word))
                self.assert_bad("TURR", (place, word, ""))
        self.assert_bad("RTUR", (-3, "TU", ""))
        self.assert_bad("TRTRTR", (-6, "TRTRTR", ""))

    def test_both_strings_empty_or_none(self):
        for dance in ("", "TU", "RTR"):
            for place in (0, 1, -1):
                self.assert_bad(dance, (place, "", ""))
                self.assert_bad(dance, (place, "TU", "UT"))
                self.assert_bad(dance, (place, "TU", "TU"))
                self.assert_bad(dance, (place, "RTR", "RR"))

    def test_other_strings(self):
        for word in NO_WORDS:
            self.assert_bad("TUR", (0, "", word))
            self.assert_bad(word + "T", (0, word, ""))
            self.assert_bad("T" + word, (1, word, ""))

    def test_all_moves_on_short_dances(self):
        words = ("",) + WORDS + ("RTR", "TR", "T")
        for dance in dances_up_to(4) + ["TRTRTR", "RTRTRTR", "TRTRTRTR", "UTRTRTRR"]:
            wanted = moves_by_the_words(dance)
            for place in range(-len(dance) - 2, len(dance) + 3):
                for move in [(place, old, new) for old in words for new in words]:
                    if move in wanted:
                        self.assertEqual(made(dance, move), wanted[move])
                        self.assertIs(is_move(move), True)
                    else:
                        self.assert_bad(dance, move)

    def test_a_move_can_be_taken_back(self):
        for dance in dances_up_to(5):
            for (place, old, new), other in moves_by_the_words(dance).items():
                self.assertEqual(made(other, (place, new, old)), dance)

    def test_a_long_dance(self):
        dance = "T" * 5000 + "RR" + "U" * 5000
        self.assertEqual(made(dance, (5000, "RR", "")), "T" * 5000 + "U" * 5000)
        self.assertEqual(made(dance, (10002, "", "RR")), dance + "RR")

    def test_the_dance_itself_stays(self):
        dance, move = "TUR", (0, "TU", "")
        self.assertEqual(made(dance, move), "R")
        self.assertEqual((dance, move), ("TUR", (0, "TU", "")))


class LeadsTest(unittest.TestCase):
    # From TR, whose number is -1, to U.
    ROW = [(0, "", "RTR"), (0, "", "UT"), (1, "TRTRTR", "")]

    def test_the_empty_list(self):
        for dance in dances_up_to(3):
            self.assertIs(leads(dance, [], dance), True)
            self.assertIs(leads(dance, [], dance + "T"), False)
            self.assertIs(leads(dance + "RR", [], dance), False)
        self.assertIs(leads("TU", [], "UT"), False)

    def test_a_row_of_moves(self):
        self.assertIs(leads("TR", self.ROW, "U"), True)
        self.assertIs(leads("TUR", [(0, "TU", ""), (1, "", "UT"), (0, "", "RR")], "RRRUT"), True)
        self.assertIs(leads("RTR", [(0, "RTR", "")], ""), True)
        self.assertIs(leads("", [(0, "", "TRTRTR"), (1, "", "RR"), (0, "", "RTR")], "RTRTRRRTRTR"), True)

    def test_another_last_dance(self):
        for other in dances_up_to(4):
            self.assertIs(leads("TR", self.ROW, other), other == "U")

    def test_another_first_dance(self):
        for one in dances_up_to(4):
            self.assertIs(leads(one, self.ROW, "U"), one == "TR")

    def test_one_left_out(self):
        for k in range(len(self.ROW)):
            self.assertIs(leads("TR", self.ROW[:k] + self.ROW[k + 1:], "U"), False)

    def test_one_put_in_twice(self):
        for k in range(len(self.ROW)):
            self.assertIs(leads("TR", self.ROW[:k + 1] + self.ROW[k:], "U"), False)

    def test_two_exchanged(self):
        first, second, third = self.ROW
        for row in ([second, first, third], [first, third, second], [third, second, first]):
            self.assertIs(leads("TR", row, "U"), False)

    def test_the_other_way_round(self):
        back = [(place, new, old) for place, old, new in self.ROW[::-1]]
        self.assertIs(leads("U", back, "TR"), True)
        self.assertIs(leads("U", self.ROW, "TR"), False)
        self.assertIs(leads("TR", back, "U"), False)

    def test_an_item_that_is_no_move(self):
        for wrong in ((0, "", ""), (0, "TU", "UT"), (0, "", "T"), (1, "", "RTR"), (0, "U", ""), (0, "x", "")):
            for k in range(len(self.ROW) + 1):
                self.assertIs(leads("TR", self.ROW[:k] + [wrong] + self.ROW[k:], "U"), False)
        self.assertIs(leads("TU", [(0, "", "")], "TU"), False)
        self.assertIs(leads("TU", [(0, "TU", "UT")], "UT"), False)
        self.assertIs(leads("TU", [(0, "TU", "TU")], "TU"), False)
        self.assertIs(leads("T", [(0, "T", "")], ""), False)
        self.assertIs(leads("TRTR", [(1, "RTR", "")], "T"), False)

    def test_an_item_that_cannot_be_made(self):
        for wrong in ((-1, "", "RR"), (50, "", "RR"), (0, "RR", ""), (1, "UT", ""), (-1, "RR", "")):
            self.assertIs(leads("TUR", [wrong], "TUR"), False)
            self.assertIs(leads("TUR", [(0, "TU", ""), wrong], "R"), False)
            self.assertIs(leads("TUR", [wrong, (0, "TU", "")], "R"), False)

    def test_moves_behind_the_last_dance_count(self):
        self.assertIs(leads("TU", [(0, "TU", ""), (0, "", "RR")], ""), False)
        self.assertIs(leads("TU", [(0, "TU", ""), (0, "", "RR"), (0, "RR", "")], ""), True)

    def test_all_single_moves_on_short_dances(self):
        for dance in dances_up_to(4):
            for move, other in moves_by_the_words(dance).items():
                self.assertIs(leads(dance, [move], other), True)
                self.assertIs(leads(dance, [move], dance), False)

    def test_a_long_row(self):
        row = [(k, "", "RR") for k in range(1000)] + [(k, "RR", "") for k in range(999, -1, -1)]
        self.assertIs(leads("T", row[:1], "RRT"), True)
        self.assertIs(leads("T", row, "T"), True)
        self.assertIs(leads("T", row[:-1], "T"), False)
        self.assertIs(leads("T", row[:-1], "RRT"), True)

    def test_the_list_stays_as_it_was(self):
        row = [(0, "", "RTR"), (0, "", "UT"), (1, "TRTRTR", ""), (5, "x", "y")]
        leads("TR", row[:3], "U")
        leads("TR", row, "U")
        self.assertEqual(row, self.ROW + [(5, "x", "y")])


if __name__ == "__main__":
    unittest.main()
