"""What several tests use: many dances, and the two ropes followed by hand."""

from itertools import product

ENDS = ("nw", "ne", "sw", "se")
TURNED_TO = {"sw": "nw", "nw": "ne", "ne": "se", "se": "sw"}
EXCHANGED_TO = {"nw": "nw", "sw": "sw", "ne": "se", "se": "ne"}
TIES = {
    "across": {"nw": "ne", "ne": "nw", "sw": "se", "se": "sw"},
    "down": {"nw": "sw", "sw": "nw", "ne": "se", "se": "ne"},
}
WAYS = tuple(TIES)


def dances_up_to(length):
    """All dances of at most so many letters, the shortest ones first."""
    return ["".join(letters) for many in range(length + 1) for letters in product("TUR", repeat=many)]


def joined_ends(dance):
    """A dict that gives for each end the one with which it is joined (point 14)."""
    joined = {"nw": "ne", "ne": "nw", "sw": "se", "se": "sw"}
    for letter in dance:
        moved = TURNED_TO if letter == "R" else EXCHANGED_TO
        joined = {moved[end]: moved[other] for end, other in joined.items()}
    return joined


def closed_ropes(dance, way):
    """How many closed ropes one counts by going along ropes and ties in turn."""
    joined = joined_ends(dance)
    unseen = list(ENDS)
    many = 0
    while unseen:
        end = unseen[0]
        while end in unseen:
            unseen.remove(end)
            unseen.remove(joined[end])
            end = TIES[way][joined[end]]
        many += 1
    return many
