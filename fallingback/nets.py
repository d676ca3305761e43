"""A net that lives: its hands tell, hear, keep points and fall."""

from fallingback.errors import Alike, NoHands, NoLetter
from fallingback.falls import fall_line
from fallingback.pasts import are_unlike_names, check_hand, hearers_of, hearings, is_whole, present_of, row_ahead
from fallingback.warily import told_since_point


class Net:
    """Hands and the past that they have; a wary one keeps a point by itself where it must to stay wary."""

    def __init__(self, hands, *, wary=False):
        if not are_unlike_names(hands):
            raise NoHands("these are no one to forty unlike names")
        self._rows = {hand: [] for hand in hands}
        # Not to be counted anew: letters that are gone behind a fall keep their numbers.
        self._letters = 0
        self._wary = wary

    def tell(self, one, other):
        """The hand one tells the hand other a letter, whose number is told."""
        check_hand(self._rows, one)
        check_hand(self._rows, other)
        if one == other:
            raise Alike("a hand tells itself no letter")
        letter = self._letters
        self._letters = letter + 1
        self._rows[one].append(("tell", letter, other))
        return letter

    def hear(self, letter):
        """The hand to which the letter was told hears it."""
        hearers = self._waiting()
        # A truth or a fraction would find the number that it equals, and a list fits no dict.
        if not is_whole(letter) or letter not in hearers:
            raise NoLetter("this letter does not lie")
        hand = hearers[letter]
        if self._wary and told_since_point(self._rows[hand]):
            self.keep(hand)
        self._rows[hand].append(("hear", letter))

    def keep(self, hand):
        """The hand keeps a point, whose number is told."""
        check_hand(self._rows, hand)
        number = present_of(self._rows, hand)
        self._rows[hand].append(("keep",))
        return number

    def fall(self, hands):
        """The hands fall, and all go back; the line is told, with its numbers as ahead of the fall."""
        line = fall_line(self._rows, hands)
        self._rows = {hand: row_ahead(self._rows[hand], line[hand]) for hand in line}
        return line

    def past(self):
        """The past of the net."""
        return {hand: list(self._rows[hand]) for hand in sorted(self._rows)}

    def lying(self):
        """The letters that lie, rising."""
        return sorted(self._waiting())

    def _waiting(self):
        """Of each letter that lies the hand that is to hear it."""
        heard = hearings(self._rows)
        hearers = hearers_of(self._rows)
        return {letter: hearers[letter] for letter in hearers if letter not in heard}
