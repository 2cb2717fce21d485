"""Diagrams of dances, and the colourings of their arcs."""

from math import gcd

from ropedance.dances import number
from ropedance.fractions import fraction


def diagram(dance):
    """Return the number of arcs, the list of the crossings, and the ends."""
    arc_count = 2
    crossings = []
    nw, ne, sw, se = 0, 0, 1, 1
    for letter in dance:
        if letter == "R":
            nw, ne, sw, se = sw, nw, se, ne
            continue
        if letter == "T":
            crossings.append((ne, se, arc_count))
            ne, se = arc_count, ne
        else:
            crossings.append((se, ne, arc_count))
            ne, se = se, arc_count
        arc_count += 1
    return arc_count, crossings, (nw, ne, sw, se)


def is_colouring(dance, colours):
    """Return True if the list of integers is a colouring of the dance."""
    arc_count, crossings, _ = diagram(dance)
    if len(colours) != arc_count:
        return False
    return all(colours[before] + colours[behind] == 2 * colours[over] for over, before, behind in crossings)


def is_plain(colours):
    """Return True if all colours of the colouring are equal."""
    return colours.count(colours[0]) == len(colours)


def colouring(dance, first, second):
    """Return the colouring in which the arcs 0 and 1 have these colours."""
    crossings = diagram(dance)[1]
    colours = [first, second]
    # The arc behind is the next one without a colour at each crossing.
    for over, before, _ in crossings:
        colours.append(2 * colours[over] - colours[before])
    return colours


def reading(dance, colours):
    """Return the fraction that is read from the list, or None if there is none."""
    if not is_colouring(dance, colours) or is_plain(colours):
        return None
    nw, ne, _, se = diagram(dance)[2]
    return fraction(colours[ne] - colours[nw], colours[ne] - colours[se])


def colour_count(dance, way, n):
    """Return the number of colourings with n colours of the closed diagram."""
    p, q = number(dance)
    # Two colours, x and x + d, of the arcs 0 and 1 give all the others. Letter
    # by letter one sees that, but for the sign, p * d lies between the colours
    # at nw and ne and between those at sw and se, and q * d between those at nw
    # and sw and between those at ne and se. So n choices of x are left, and as
    # many choices of d as make that product divisible by n.
    return n * gcd(n, p if way == "across" else q)
