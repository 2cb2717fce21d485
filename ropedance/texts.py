"""Dances and moves as texts."""

from ropedance.dances import is_dance
from ropedance.errors import BadText

LETTERS = ("T", "U", "R")
DIGITS = "0123456789"
MOST_DIGITS = 9
NO_LETTERS = "-"


def write_dance(dance):
    """Return the text of the dance."""
    spaced = dance
    for letter in LETTERS:
        for other in LETTERS:
            if letter != other:
                spaced = spaced.replace(letter + other, letter + " " + other)
    return " ".join([written(run) for run in spaced.split()])


def written(run):
    """Return the word for a run of one letter."""
    return run if len(run) == 1 else run[0] + str(len(run))


def read_dance(text):
    """Return the dance of the text."""
    if text == "":
        return ""
    words = text.split(" ")
    # No run is made before all words are known to be right: it may be long.
    for word in words:
        if not is_word(word):
            raise BadText("a word is a letter, or a letter and a length")
    return "".join([run_of(word) for word in words])


def is_word(word):
    """Return True if it is a letter, followed by a length or not."""
    return word[:1] in LETTERS and (len(word) == 1 or is_count(word[1:]))


def is_count(digits):
    """Return True if it is a number above 0 as the texts have it."""
    if digits == "" or len(digits) > MOST_DIGITS or digits[0] == "0":
        return False
    return all(digit in DIGITS for digit in digits)


def run_of(word):
    """Return the letters for which the word stands."""
    return word if len(word) == 1 else word[0] * int(word[1:])


def write_moves(moves):
    """Return the list of the lines of the tuples."""
    return [" ".join([str(place), old or NO_LETTERS, new or NO_LETTERS]) for place, old, new in moves]


def read_moves(lines):
    """Return the list of the tuples of the lines."""
    return [move_of(line) for line in lines]


def move_of(line):
    """Return the tuple of a place and two strings that is written as the line."""
    words = line.split(" ")
    if len(words) != 3:
        raise BadText("a line has three words, with one space between neighbours")
    place, old, new = words
    if place != "0" and not is_count(place):
        raise BadText("a place is 0 or has up to 9 digits, the first one not 0")
    return int(place), letters_of(old), letters_of(new)


def letters_of(word):
    """Return the string that the word of a line stands for."""
    if word == NO_LETTERS:
        return ""
    if word == "" or not is_dance(word):
        raise BadText("a word is one of letters, or - for the empty string")
    return word
