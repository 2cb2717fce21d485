"""Dances, their numbers, and how the two ropes run in their diagrams."""

from ropedance.fractions import after

OPPOSITES = {"T": "U", "U": "T", "R": "R"}


def is_dance(text):
    """Return True if the string is a dance."""
    return all(letter in OPPOSITES for letter in text)


def number(dance):
    """Return the fraction to which the dance leads 0."""
    return after((0, 1), dance)


def backward(dance):
    """Return the dance in the opposite order, with U for T and T for U."""
    return mirrored(dance[::-1])


def mirrored(dance):
    """Return the dance with U for T and T for U."""
    return "".join([OPPOSITES[letter] for letter in dance])


def partner(dance):
    """Return the end with which nw is joined."""
    nw, ne, sw, _ = ropes_at_ends(dance)
    if ne == nw:
        return "ne"
    if sw == nw:
        return "sw"
    return "se"


def pieces(dance, way):
    """Return how many closed ropes tying the ends in this way gives."""
    tied_to_nw = "ne" if way == "across" else "sw"
    # A rope whose own ends are tied together is closed alone, and then the
    # other rope is, too; else the ties make one rope of the two.
    return 2 if partner(dance) == tied_to_nw else 1


def ropes_at_ends(dance):
    """Return the numbers, 0 or 1, of the ropes that end at nw, ne, sw and se."""
    nw, ne, sw, se = 0, 0, 1, 1
    for letter in dance:
        if letter == "R":
            nw, ne, sw, se = sw, nw, se, ne
        else:
            ne, se = se, ne
    return nw, ne, sw, se
