"""The shortest dances that lead to a fraction, or undo a dance."""

from ropedance.dances import backward, number
from ropedance.errors import NoDance
from ropedance.fractions import quotients


def steps(fraction):
    """Return the number of letters of the shortest dances that lead to the fraction."""
    parts = quotients(fraction)
    # As many letters as the runs have, and an R between neighbours.
    return sum(parts) + len(parts) - 1


def runs(fraction):
    """Return the runs of the first least dance, each as its letter and its length.

    The quotients are their lengths, the last quotient first; their letters are
    T and U in turns. Between neighbours stands an R.
    """
    letters = "UT" if fraction[0] < 0 else "TU"
    return [(letters[k & 1], part) for k, part in enumerate(quotients(fraction))][::-1]


def undo(dance):
    """Return the first one of the shortest dances that undo the dance."""
    # They are the backward dances of the least dances of its number. Wherever
    # another one of these parts from the first one, seen from the front or from
    # behind, the first one has an R there, and no letter comes before R.
    return backward("R".join([letter * many for letter, many in runs(number(dance))]))


class LeastDances:
    """The least dances of a fraction.

    The letters join the fractions to a net of hexagons, TRTRTR all around, that
    hang together like a tree. So shortest ways part only where one goes TRT and
    another one RUR, or one URU and another one RTR, and each least dance comes
    from the first one by melting runs of a single letter between two Rs: the
    run and both Rs give way to one R, and the runs on both sides, which have the
    other letter, grow by one. Of two neighbouring runs at most one melts.
    """

    def __init__(self, fraction):
        self.fraction = fraction
        self.runs = runs(fraction)
        self.ways = ways_on(self.runs)

    @property
    def dance_count(self):
        """How many least dances there are."""
        return self.ways[0]

    def dance(self, rank):
        """Return the least dance with the rank."""
        if rank < 0 or rank >= self.dance_count:
            raise NoDance("no least dance has this rank")
        letter, many = self.runs[0]
        words = [letter * many]
        at = 0
        while at + 1 < len(self.runs):
            if rank < self.ways[at + 1]:
                at += 1
                words.append("R")
            else:
                rank -= self.ways[at + 1]
                at += 2
                words.append(letter + "R" + letter)
            letter, many = self.runs[at]
            words.append(letter * many)
        return "".join(words)

    def rank_of(self, dance):
        """Return the rank of the least dance."""
        if len(dance) != steps(self.fraction) or number(dance) != self.fraction:
            raise NoDance("this is not one of the least dances")
        rank = 0
        at = 0
        behind = self.runs[0][1]
        while at + 1 < len(self.runs):
            if dance[behind] == "R":
                at += 1
                behind += 1
            else:
                rank += self.ways[at + 1]
                at += 2
                behind += 3
            behind += self.runs[at][1]
        return rank

    def dances(self, start):
        """Yield the least dances from the rank on, in order."""
        rank = start
        while rank < self.dance_count:
            yield self.dance(rank)
            rank += 1


def ways_on(all_runs):
    """Return for each run in how many ways a least dance can go on behind it.

    It can go on with an R and the next run, or, if that run melts, with the one
    after it; the first way is the earlier one in the order of strings.
    """
    ways = [1 for _ in all_runs]
    for at in range(len(all_runs) - 3, -1, -1):
        ways[at] = ways[at + 1]
        if all_runs[at + 1][1] == 1:
            ways[at] += ways[at + 2]
    return ways
