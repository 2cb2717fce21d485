"""Moves: what may be put into a dance or taken out of it."""

from ropedance.errors import BadMove

WORDS = ("TU", "UT", "RR", "TRTRTR")
WORD_IN_FRONT = "RTR"


def is_move(move):
    """Return True if the tuple of an integer and two strings is a move."""
    place, old, new = move
    if old != "" and new != "":
        return False
    word = old + new
    return word in WORDS or (place == 0 and word == WORD_IN_FRONT)


def made(dance, move):
    """Return the dance that the move makes."""
    if not is_move(move):
        raise BadMove("this is not a move")
    place, old, new = move
    behind = place + len(old)
    if place < 0 or place > len(dance) or dance[place:behind] != old:
        raise BadMove("the move cannot be made on the dance")
    return dance[:place] + new + dance[behind:]


def leads(one, moves, other):
    """Return True if the list is one of moves that lead one dance to the other."""
    dance = one
    for move in moves:
        try:
            dance = made(dance, move)
        except BadMove:
            return False
    return dance == other
