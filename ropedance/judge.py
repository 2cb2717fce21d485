"""Papers: whether two dances are alike, told so that it can be checked."""

from ropedance.dances import number
from ropedance.diagrams import colouring, reading
from ropedance.moves import leads
from ropedance.standard import to_standard


def judge(one, other):
    """Return an accepted paper for the two dances."""
    # No move changes the number of a dance, and all dances with one number are
    # led to one standard dance: alike are those that have the same number.
    if number(one) != number(other):
        return "apart", colouring(one, 0, 1), colouring(other, 0, 1)
    return "alike", to_standard(one) + taken_back(to_standard(other))


def taken_back(moves):
    """Return the moves that lead back the way that the moves lead."""
    return [(place, new, old) for place, old, new in moves[::-1]]


def accepts(one, other, paper):
    """Return True if the paper is accepted for the two dances."""
    if paper[0] == "alike":
        return leads(one, paper[1], other)
    first = reading(one, paper[1])
    second = reading(other, paper[2])
    if first is None or second is None:
        return False
    return first != second
