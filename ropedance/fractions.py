"""Fractions, their order, and how a dance leads from one to another."""

from math import gcd

from ropedance.errors import NoFraction


def fraction(p, q):
    """Return the fraction that stands for p divided by q."""
    if p == 0 and q == 0:
        raise NoFraction("0 divided by 0 is no fraction")
    divisor = gcd(p, q)
    if q < 0 or (q == 0 and p < 0):
        divisor = -divisor
    return p // divisor, q // divisor


def less(one, other):
    """Return True if the first fraction is less than the second one."""
    p, q = one
    other_p, other_q = other
    # No lower number is negative, so this holds of infinite, (1, 0), as well.
    return p * other_q < other_p * q


def after(fraction, dance):
    """Return the fraction to which the dance leads the fraction."""
    p, q = fraction
    for letter in dance:
        if letter == "T":
            p += q
        elif letter == "U":
            p -= q
        else:
            p, q = turned(p, q)
    return p, q


def turned(p, q):
    """Return the fraction of -1 / x for the fraction (p, q) of x."""
    # p and q have no common divisor, so only the sign is to be put right.
    if p == 0:
        return 1, 0
    if p < 0:
        return q, -p
    return -q, p


def quotients(fraction):
    """Return the quotients of the fraction without its sign, by repeated division.

    The list of a, b, c and so on stands for a + 1 / (b + 1 / (c + ..)); the
    last one is above 1 if there are several. Infinite stands as 0 + 1 / 0.
    """
    p, q = fraction
    if q == 0:
        return [0, 0]
    parts = []
    rest = abs(p)
    while q > 0:
        parts.append(rest // q)
        rest, q = q, rest % q
    return parts


def from_quotients(parts):
    """Return the fraction, which is not negative, that has these quotients."""
    p, q = 1, 0
    for part in parts[::-1]:
        p, q = part * p + q, p
    return p, q
