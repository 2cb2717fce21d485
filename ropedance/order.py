"""The one order of all fractions: by their steps, then by their size.

Behind FIRST, all is told from the Stern-Brocot tree of the positive fractions.
Its root is 1; from each fraction one goes on to a greater or to a lesser one.
The quotients of a fraction tell its way from the root: so often to greater
ones, then so often to lesser ones, and so on in turns, but the last one counts
one less. The root has 1 step. To go on in the direction of the way, at the root
to a greater one, takes 1 step more; to turn takes 2. So from a fraction on there
are as many fractions with n steps more as the Fibonacci number n + 1 tells (1,
1, 2, 3, 5 and so on): those behind a turn, and, further in the direction of the
way, those behind none. The negative fractions are the mirror image.
"""

from ropedance.errors import NoFraction
from ropedance.fractions import from_quotients, quotients

FIRST = ((0, 1), (-1, 1), (1, 1), (1, 0))


def place(fraction):
    """Return the place of the fraction."""
    if fraction in FIRST:
        return FIRST.index(fraction)
    many, fewer, greater = among_positive(fraction)
    start = 2 * (many + fewer)
    if fraction[0] < 0:
        return start + greater
    return start + 2 * many - 1 - greater


def among_positive(fraction):
    """Return where the fraction without its sign stands among the positive ones.

    That is how many of them have as many steps, how many have one step less,
    and how many of those with as many steps are greater.
    """
    moves = quotients(fraction)
    moves[-1] -= 1
    # The way is taken back to the root, a run of moves at a time. Among what
    # one can go on to from where it then stands, many fractions have as many
    # steps as the given one, and beyond of these are further in its direction.
    many, fewer, beyond = 1, 0, 0
    for onward in moves[:0:-1]:
        many, fewer = later(many, fewer, onward + 1)
        beyond = many - 1 - beyond
    many, fewer = later(many, fewer, moves[0])
    return many, fewer, beyond


def later(many, fewer, by):
    """Return the Fibonacci numbers that come so much behind two neighbours."""
    one, before = 0, 1
    # From the Fibonacci numbers n and n - 1 to those of twice n, for each bit.
    for k in range(by.bit_length() - 1, -1, -1):
        one, before = one * (one + 2 * before), one * one + before * before
        if (by >> k) & 1:
            one, before = one + before, one
    return many * (one + before) + fewer * one, many * one + fewer * before


def fraction_at(place):
    """Return the fraction with the place."""
    if place < 0:
        raise NoFraction("no fraction has a negative place")
    if place < len(FIRST):
        return FIRST[place]
    many, fewer = 1, 1
    # As in place: start is the first place of the fractions with so many steps.
    start = 4
    while place >= start + 2 * many:
        start += 2 * many
        many, fewer = many + fewer, many
    greater = place - start
    if greater < many:
        p, q = positive_at(greater, many, fewer)
        return -p, q
    return positive_at(2 * many - 1 - greater, many, fewer)


def positive_at(greater, many, fewer):
    """Return the positive fraction than which so many with as many steps are greater."""
    moves = [0]
    beyond = greater
    while fewer > 0:
        if beyond < fewer:
            moves[-1] += 1
            many, fewer = fewer, many - fewer
        else:
            moves.append(1)
            beyond = many - 1 - beyond
            many, fewer = many - fewer, 2 * fewer - many
    moves[-1] += 1
    return from_quotients(moves)


def fractions_with(step_count):
    """Return the list of all fractions with so many steps, in ascending order."""
    if step_count < 0:
        return []
    if step_count < 2:
        return list(FIRST[:1]) if step_count == 0 else list(FIRST[1:])
    # A positive x leads to x + 1 with a step more, to 1 / (x + 1) with two.
    lower, found = [], [(1, 1)]
    for _ in range(step_count - 1):
        below_one = [(q, p + q) for p, q in lower[::-1]]
        lower, found = found, below_one + [(p + q, q) for p, q in found]
    return [(-p, q) for p, q in found[::-1]] + found
