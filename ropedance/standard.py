"""Standard dances, and the moves that lead a dance to one."""


def standard(fraction):
    """Return the standard dance of the fraction."""
    p, q = fraction
    if q == 0:
        return "R"
    bounds = []
    while q != 1:
        bound = p // q + 1
        bounds.append(bound)
        p, q = q, bound * q - p
    bounds.append(p)
    return "R".join([twists(many) for many in bounds[::-1]])


def twists(many):
    """Return so many twists, or untwists if the number is negative."""
    return "T" * many if many >= 0 else "U" * -many


def to_standard(dance):
    """Return a list of moves that leads the dance to its number's standard dance."""
    front = Front()
    for letter in dance:
        front.take(letter)
    front.finish()
    return front.moves


class Front:
    """The front of a dance, as the moves made so far have left it.

    It takes the letters of the dance one by one. All moves are made within it,
    so the letters that it has not taken stay as they are. Between two letters
    it is a standard dance, but for one thing: if no T follows the last R, a
    single T may stand before that R. To take this T away can change all of the
    front, and a few letters later all may have to be put there again; so that
    waits for the end, and in all there are only a few moves for each letter.
    """

    def __init__(self):
        self.letters = []
        self.moves = []

    def take(self, letter):
        """Take the next letter of the dance."""
        if letter == "T":
            self.take_twist()
        elif letter == "U":
            self.take_untwist()
        else:
            self.take_turn()

    def take_twist(self):
        """Take a T."""
        self.letters.append("T")
        if self.ends_with("UT"):
            self.make(2, "UT", "")
        elif self.ends_with("TRTRT"):
            self.make(0, "", "RR")
            self.make(7, "TRTRTR", "")
        elif self.is_now("RT"):
            self.make(0, "", "RR")
            self.make(4, "RTR", "")
        elif self.is_now("TRT"):
            self.make(3, "", "RTR")
            self.make(0, "", "RR")
            self.make(7, "TRTRTR", "")
            self.make(2, "RR", "")

    def take_untwist(self):
        """Take a U."""
        self.letters.append("U")
        if self.ends_with("TU"):
            self.make(2, "TU", "")
        elif self.is_now("RU"):
            self.make(2, "", "RTR")
            self.make(3, "RR", "")
            self.make(2, "TU", "")

    def take_turn(self):
        """Take an R."""
        many = self.leave_untwists()
        for _ in range(many):
            self.letters.append("U")
            self.spread_untwist()
        self.letters.append("R")
        if self.ends_with("RR"):
            self.make(2, "RR", "")

    def spread_untwist(self):
        """Lead RU at the end to TRTR, and a U that is alone to TR."""
        self.make(0, "", "TRTRTR")
        self.make(7, "UT", "")
        if self.is_now("RTRTR"):
            self.make(5, "RTR", "")
        else:
            self.make(6, "RR", "")

    def finish(self):
        """Take the single T before the last R away, if there is one."""
        self.leave_untwists()
        while self.ends_with("RTR"):
            self.make(0, "", "TU")
            self.make(1, "", "RR")
            self.make(8, "TRTRTR", "")
            self.leave_untwists()
        if self.is_now("TR"):
            self.make(2, "", "RTR")
            self.make(5, "", "UT")
            self.make(6, "TRTRTR", "")

    def leave_untwists(self):
        """Leave the Us at the end to what follows the front; return their number."""
        many = 0
        while self.ends_with("U"):
            self.letters.pop()
            many += 1
        return many

    def make(self, back, old, new):
        """Make a move so many letters before the end."""
        place = len(self.letters) - back
        self.letters[place:place + len(old)] = list(new)
        self.moves.append((place, old, new))

    def ends_with(self, text):
        """Return True if the front ends with the text, which is not empty."""
        return self.letters[-len(text):] == list(text)

    def is_now(self, text):
        """Return True if the front consists of the text."""
        return self.letters == list(text)
