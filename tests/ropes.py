"""What several tests use: many dances, the two ropes followed by hand, and walks."""

from fractions import Fraction
from itertools import product

INFINITE = (1, 0)

ENDS = ("nw", "ne", "sw", "se")
TURNED_TO = {"sw": "nw", "nw": "ne", "ne": "se", "se": "sw"}
EXCHANGED_TO = {"nw": "nw", "sw": "sw", "ne": "se", "se": "ne"}
TIES = {
    "across": {"nw": "ne", "ne": "nw", "sw": "se", "se": "sw"},
    "down": {"nw": "sw", "sw": "nw", "ne": "se", "se": "ne"},
}
WAYS = tuple(TIES)


def dances_up_to(length):
    """All dances of at most so many letters, the shortest ones first."""
    return ["".join(letters) for many in range(length + 1) for letters in product("TUR", repeat=many)]


def joined_ends(dance):
    """A dict that gives for each end the one with which it is joined (point 14)."""
    joined = {"nw": "ne", "ne": "nw", "sw": "se", "se": "sw"}
    for letter in dance:
        moved = TURNED_TO if letter == "R" else EXCHANGED_TO
        joined = {moved[end]: moved[other] for end, other in joined.items()}
    return joined


def closed_ropes(dance, way):
    """How many closed ropes one counts by going along ropes and ties in turn."""
    joined = joined_ends(dance)
    unseen = list(ENDS)
    many = 0
    while unseen:
        end = unseen[0]
        while end in unseen:
            unseen.remove(end)
            unseen.remove(joined[end])
            end = TIES[way][joined[end]]
        many += 1
    return many


def led(pair, letter):
    """Where a letter leads a fraction (point 4)."""
    p, q = pair
    if letter == "T":
        return p + q, q
    if letter == "U":
        return p - q, q
    return (-q, p) if p > 0 else (q, -p)


def number_by_hand(dance, pair=(0, 1)):
    """The number of a dance, or where it leads another fraction than 0 (point 5)."""
    for letter in dance:
        pair = led(pair, letter)
    return pair


def after_moves(dance, moves):
    """The dance that the moves make one after another, by point 7; None if one cannot be made."""
    for place, old, new in moves:
        word = old or new
        allowed = ("TU", "UT", "RR", "TRTRTR") + (("RTR",) if place == 0 else ())
        if (old and new) or word not in allowed or not 0 <= place <= len(dance):
            return None
        if not dance[place:].startswith(old):
            return None
        dance = dance[:place] + new + dance[place + len(old):]
    return dance


def walk(step_count):
    """For each number of steps, from 0 on, a dict of its fractions with all their least dances."""
    layers = [{(0, 1): [""]}]
    seen = {(0, 1)}
    for _ in range(step_count):
        layer = {}
        for pair, dances in layers[-1].items():
            for letter in "TUR":
                if led(pair, letter) not in seen:
                    layer.setdefault(led(pair, letter), []).extend(dance + letter for dance in dances)
        seen.update(layer)
        layers.append(layer)
    return [{pair: sorted(dances) for pair, dances in layer.items()} for layer in layers]


def ascending(pairs):
    """The fractions in their order (point 3)."""
    finite = sorted((pair for pair in pairs if pair != INFINITE), key=lambda pair: Fraction(*pair))
    return finite + [pair for pair in pairs if pair == INFINITE]


def fibonacci(n):
    """The Fibonacci number n: 0, 1, 1, 2, 3, 5 and so on."""
    one, other = 0, 1
    for _ in range(n):
        one, other = other, one + other
    return one
