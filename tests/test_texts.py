"""Points 17 and 18: the texts of dances and of moves."""

import unittest
from itertools import groupby, product

from ropedance.errors import BadMove, BadText, NoDance, NoFraction, RopeError
from ropedance.texts import read_dance, read_moves, write_dance, write_moves
from ropes import dances_up_to

LONG_DANCES = ("TTTR" * 250, "UUURTRTTTTR" * 91, "TTUURUR" * 143, "T" * 999, "R" * 1001, "T" * 10 + "U" * 100 + "R" * 7)
SIGNS = [chr(code) for code in range(32, 127) if chr(code) != "%"]
OTHER_LETTERS = [sign for sign in SIGNS if sign not in "TUR"]


class BadTextCase(unittest.TestCase):
    def assert_bad(self, function, argument):
        with self.assertRaises(BadText, msg=repr(argument)) as caught:
            function(argument)
        self.assertIs(type(caught.exception), BadText)
        self.assertIsInstance(caught.exception, RopeError)
        self.assertIsInstance(caught.exception, ValueError)
        for other in (BadMove, NoDance, NoFraction):
            self.assertNotIsInstance(caught.exception, other)


class WriteDanceTest(unittest.TestCase):
    def test_examples(self):
        for dance, wanted in (("", ""), ("T", "T"), ("R", "R"), ("TT", "T2"), ("UUU", "U3"), ("TTRTTTR", "T2 R T3 R"),
                              ("TUR", "T U R"), ("TUT", "T U T"), ("RRRR", "R4"), ("TTTTTTTTTTTT", "T12"),
                              ("TUTUU", "T U T U2"), ("RTTUURR", "R T2 U2 R2")):
            given = write_dance(dance)
            self.assertIs(type(given), str)
            self.assertEqual(given, wanted)

    def test_run_by_run(self):
        for dance in dances_up_to(7) + list(LONG_DANCES):
            runs = [(letter, len(list(run))) for letter, run in groupby(dance)]
            wanted = " ".join(letter + (str(many) if many > 1 else "") for letter, many in runs)
            self.assertEqual(write_dance(dance), wanted)

    def test_long_runs(self):
        for many in (9, 10, 99, 100, 12345, 10 ** 6):
            for letter in "TUR":
                self.assertEqual(write_dance(letter * many), letter + str(many))
        self.assertEqual(write_dance("U" * 10 ** 5 + "R" + "U" * 10 ** 4), "U100000 R U10000")

    def test_a_run_with_nine_digits(self):
        self.assertEqual(write_dance("R" * 10 ** 8), "R100000000")

    def test_the_dance_stays(self):
        dance = "TTRU"
        write_dance(dance)
        self.assertEqual(dance, "TTRU")


class ReadDanceTest(BadTextCase):
    def test_examples(self):
        for text, wanted in (("", ""), ("T", "T"), ("U", "U"), ("R", "R"), ("T2", "TT"), ("U3 R", "UUUR"),
                             ("T2 R T3 R", "TTRTTTR"), ("T12", "T" * 12), ("R10 U", "R" * 10 + "U")):
            given = read_dance(text)
            self.assertIs(type(given), str)
            self.assertEqual(given, wanted)

    def test_what_was_written(self):
        for dance in dances_up_to(7) + list(LONG_DANCES):
            self.assertEqual(read_dance(write_dance(dance)), dance)

    def test_words_with_the_same_letter_one_after_another(self):
        for text, wanted in (("T T", "TT"), ("T2 T3", "TTTTT"), ("U U U", "UUU"), ("R R2 R", "RRRR"),
                             ("T9 T", "T" * 10)):
            self.assertEqual(read_dance(text), wanted)

    def test_a_length_of_1(self):
        self.assertEqual(read_dance("T1"), "T")
        self.assertEqual(read_dance("T1 U1 R1 R1"), "TURR")
        self.assertEqual(write_dance(read_dance("T1 U1 R1 R1")), "T U R2")

    def test_every_length_of_few_digits(self):
        for many in list(range(1, 130)) + [999, 1000, 9999, 10000, 99999, 100000]:
            self.assertEqual(read_dance("U" + str(many)), "U" * many)

    def test_lengths_of_nine_digits(self):
        for letter, many in (("T", 100000000), ("R", 123456789)):
            dance = read_dance(letter + str(many))
            self.assertEqual(len(dance), many)
            self.assertEqual(dance.count(letter), many)

    def test_lengths_of_ten_digits_or_more(self):
        for digits in ("1000000000", "9999999999", "1234567890", "1" * 11, "1" * 5000):
            self.assert_bad(read_dance, "T" + digits)
            self.assert_bad(read_dance, "R T" + digits)

    def test_lengths_that_begin_with_0(self):
        for digits in ("0", "00", "01", "02", "010", "000000001", "0123456789"):
            self.assert_bad(read_dance, "T" + digits)
            self.assert_bad(read_dance, "T U" + digits + " R")

    def test_spaces(self):
        for text in (" ", "  ", " T", "T ", "T  U", " T U", "T U ", "T2  R", "T 2", "T U  R", "   T", "T2 R   "):
            self.assert_bad(read_dance, text)

    def test_words_of_several_letters_or_none(self):
        for text in ("TU", "TT", "TUR", "T2U", "T2U3", "TT2", "T U2R", "RTR"):
            self.assert_bad(read_dance, text)

    def test_a_lone_length(self):
        for text in ("2", "1", "0", "12", "T 3", "3 T", "2T", "T2 3 R"):
            self.assert_bad(read_dance, text)

    def test_signs(self):
        for text in ("T-1", "T+1", "T-2", "T+2", "-T", "+T", "-", "+", "T--1", "T2-", "T2+", "T-"):
            self.assert_bad(read_dance, text)

    def test_other_numbers_and_characters(self):
        for text in ("T1_0", "T1.0", "T1e3", "T0x1", "T1,0", "T2.", "T.", "t", "u2", "r", "t2 R", "T(2)", "T2,R",
                     "T2;R", "T\t2", "T\tU", "T\n", "\nT", "T2\n", "T\nU", "\t", "T\u00b2", "T\u0663",
                     "T1\u0662", "\u0422"):
            self.assert_bad(read_dance, text)

    def test_every_short_text(self):
        for many in range(1, 5):
            for signs in product("TR 012-", repeat=many):
                text = "".join(signs)
                words = text.split(" ")
                wanted = ""
                for word in words:
                    length = word[1:] or "1"
                    if word[:1] not in ("T", "R") or not length.isdigit() or length[0] == "0":
                        wanted = None
                        break
                    wanted += word[0] * int(length)
                if wanted is None:
                    self.assert_bad(read_dance, text)
                else:
                    self.assertEqual(read_dance(text), wanted)

    def test_every_character_in_each_part_of_a_word(self):
        for sign in SIGNS:
            if sign in OTHER_LETTERS:
                self.assert_bad(read_dance, sign)
                self.assert_bad(read_dance, sign + "2")
                self.assert_bad(read_dance, "T " + sign)
            if not sign.isdigit():
                self.assert_bad(read_dance, "T2" + sign)
                self.assert_bad(read_dance, "T" + sign)
                self.assert_bad(read_dance, "T1" + sign + "2" if sign != " " else "T1  2")

    def test_one_wrong_word_among_long_ones(self):
        self.assert_bad(read_dance, "T999999999 U999999999 R999999999 x")
        self.assert_bad(read_dance, "T999999999 U999999999 R0")
        self.assert_bad(read_dance, " ".join(["T999999999"] * 1000 + ["T0"]))


TUPLES = [(0, "", "RTR"), (0, "", "UT"), (1, "TRTRTR", ""), (5, "", ""), (999999999, "RR", "TU"), (0, "T" * 50, "R")]
LINES = ["0 - RTR", "0 - UT", "1 TRTRTR -", "5 - -", "999999999 RR TU", "0 " + "T" * 50 + " R"]


class WriteMovesTest(unittest.TestCase):
    def test_examples(self):
        given = write_moves(TUPLES)
        self.assertIs(type(given), list)
        self.assertEqual([type(line) for line in given], [str] * len(LINES))
        self.assertEqual(given, LINES)

    def test_each_alone(self):
        for one, line in zip(TUPLES, LINES):
            self.assertEqual(write_moves([one]), [line])

    def test_the_empty_list(self):
        given = write_moves([])
        self.assertIs(type(given), list)
        self.assertEqual(given, [])

    def test_all_short_strings(self):
        for place in (0, 1, 9, 10, 123456789, 999999999):
            for old in dances_up_to(2):
                for new in dances_up_to(2):
                    wanted = str(place) + " " + (old if old else "-") + " " + (new if new else "-")
                    self.assertEqual(write_moves([(place, old, new)]), [wanted])

    def test_the_order_stays(self):
        self.assertEqual(write_moves(TUPLES[::-1] + TUPLES), LINES[::-1] + LINES)

    def test_lists_stay(self):
        passed = list(TUPLES)
        kept = write_moves(passed)
        self.assertEqual(passed, TUPLES)
        kept.append("x")
        kept[0] = "y"
        self.assertEqual(passed, TUPLES)
        self.assertEqual(write_moves(passed), LINES)
        passed.clear()
        self.assertEqual(kept[1:-1], LINES[1:])


class ReadMovesTest(BadTextCase):
    def assert_bad_line(self, line):
        self.assert_bad(read_moves, [line])
        self.assert_bad(read_moves, LINES + [line])
        self.assert_bad(read_moves, [line] + LINES)

    def test_examples(self):
        given = read_moves(LINES)
        self.assertIs(type(given), list)
        self.assertEqual(given, TUPLES)
        for one in given:
            self.assertIs(type(one), tuple)
            self.assertEqual([type(part) for part in one], [int, str, str])

    def test_the_empty_list(self):
        given = read_moves([])
        self.assertIs(type(given), list)
        self.assertEqual(given, [])

    def test_there_and_back(self):
        tuples = [(place, old, new) for place in (0, 1, 10, 907, 100000000, 999999999)
                  for old in dances_up_to(2) for new in dances_up_to(2)]
        self.assertEqual(read_moves(write_moves(tuples)), tuples)

    def test_tuples_that_are_no_moves(self):
        self.assertEqual(read_moves(["0 - -", "3 T T", "1 - RTR", "7 UUU RTRTR"]),
                         [(0, "", ""), (3, "T", "T"), (1, "", "RTR"), (7, "UUU", "RTRTR")])

    def test_places(self):
        for place in ("1", "9", "10", "99", "100000000", "999999999"):
            self.assertEqual(read_moves([place + " - RR"]), [(int(place), "", "RR")])
        for place in ("00", "01", "007", "0000000001", "1000000000", "9999999999", "1" * 5000, "-0", "-1", "+1", "+0",
                      "", "-", "T", "x", "1.0", "1_0", "1e3", "0x1", "1,0", "\u0663", "1\u0662", "\u00b2", "1-", "1T"):
            self.assert_bad_line(place + " - RR")
            self.assert_bad_line(place + " TU -")

    def test_too_few_or_too_many_words(self):
        for line in ("0", "0 -", "0 TU", "- RR", "TU", "-", "T U", "0 - RR -", "0 0 - RR", "0 - RR TU", "0 - - -",
                     "0 T U R"):
            self.assert_bad_line(line)

    def test_the_empty_line(self):
        self.assert_bad_line("")

    def test_spaces(self):
        for line in (" ", "  ", "   ", " 0 - RR", "0 - RR ", "0  - RR", "0 -  RR", "0  RR", "0 RR ", " 0 RR", " - RR",
                     "0  -", "0\t-\tRR", "0 - RR\n", "\n0 - RR", "0 -\tRR", "0 -\nRR"):
            self.assert_bad_line(line)

    def test_other_letters(self):
        for word in OTHER_LETTERS + ["t", "tu", "TUr", "TxU", "xTU", "TU0", "T2", "0", "2", "TU,", "\u0422"]:
            if word != "-":
                self.assert_bad_line("0 - " + word)
                self.assert_bad_line("0 " + word + " -")
                self.assert_bad_line("0 TU" + word + " R")
                self.assert_bad_line("0 R " + word + "TU")

    def test_a_dash_together_with_letters(self):
        for word in ("-T", "T-", "T-U", "--", "---", "-TU-", "-R"):
            self.assert_bad_line("0 - " + word)
            self.assert_bad_line("0 " + word + " -")
            self.assert_bad_line("0 " + word + " TU")

    def test_lists_stay(self):
        passed = list(LINES)
        kept = read_moves(passed)
        self.assertEqual(passed, LINES)
        kept.append((0, "", ""))
        kept[0] = (7, "T", "")
        self.assertEqual(passed, LINES)
        self.assertEqual(read_moves(passed), TUPLES)
        passed.clear()
        self.assertEqual(kept[1:-1], TUPLES[1:])
        wrong = ["0 - RR", "x"]
        self.assert_bad(read_moves, wrong)
        self.assertEqual(wrong, ["0 - RR", "x"])


if __name__ == "__main__":
    unittest.main()
