"""Falls: how far all hands go back when some fall, what that loses, and why."""

from fallingback.lines import greatest_line, presents_of
from fallingback.pasts import check_hand, check_hands, check_past, hearings, present_of, row_ahead, tellings
from fallingback.zigzags import fewest_letters, leads


def fall_line(past, hands):
    """The line to which all go back when the hands fall."""
    _check_fall(past, hands)
    return line_left(past, hands)


def deeds_lost(past, hands):
    """How many deeds each hand loses when the hands fall."""
    _check_fall(past, hands)
    line = line_left(past, hands)
    return {hand: len(past[hand]) - len(row_ahead(past[hand], line[hand])) for hand in sorted(past)}


def letters_after(past, hands):
    """The letters that are gone when the hands have fallen, and those that lie again."""
    _check_fall(past, hands)
    line = line_left(past, hands)
    told = tellings(past)
    gone = _letters_behind(line, told)
    unheard = _letters_behind(line, hearings(past))
    return gone, [letter for letter in unheard if letter not in gone]


def why_back(past, hands, hand):
    """The fewest letters that lead from a fallen hand's last part to the part behind the hand's point.

    None where the hand loses no part, the empty list where it only falls itself.
    """
    _check_why(past, hands, hand)
    line = line_left(past, hands)
    if not _loses(past, line, hand):
        return None
    if _only_falls(past, line, hands, hand):
        return []
    found = [fewest_letters(past, one, _point_behind(line, hand)) for one in _last_kept(past, hands)]
    return min([letters for letters in found if letters is not None], key=len)


def is_why(past, hands, hand, thing):
    """Whether the thing tells why the hand goes back when the hands fall, as why_back does, in any letters."""
    _check_why(past, hands, hand)
    line = line_left(past, hands)
    if not _loses(past, line, hand):
        return thing is None
    if _only_falls(past, line, hands, hand):
        return isinstance(thing, list) and not thing
    return any([leads(past, one, _point_behind(line, hand), thing) for one in _last_kept(past, hands)])


def line_left(past, hands):
    """The line of the fall, of what is known to be a past and hands of it."""
    numbers = presents_of(past)
    for hand, number in _last_kept(past, hands):
        numbers[hand] = number
    return greatest_line(past, numbers)


def _check_fall(past, hands):
    """Refuses what is no past, then what are no hands of it."""
    check_past(past)
    check_hands(past, hands)


def _check_why(past, hands, hand):
    """Refuses what is no past, then what are no hands of it, then what is no hand of it."""
    _check_fall(past, hands)
    check_hand(past, hand)


def _last_kept(past, hands):
    """The last kept points of the hands, rising."""
    return [(hand, present_of(past, hand) - 1) for hand in sorted(hands)]


def _letters_behind(line, parts):
    """The letters that have their part behind the line, rising."""
    return [letter for letter in sorted(parts) if parts[letter][1] >= line[parts[letter][0]]]


def _loses(past, line, hand):
    """Whether the hand loses a part."""
    return line[hand] < present_of(past, hand)


def _only_falls(past, line, hands, hand):
    """Whether the hand falls, and goes back to its last kept point."""
    return hand in hands and line[hand] == present_of(past, hand) - 1


def _point_behind(line, hand):
    """The hand's point that ends the part behind the line.

    No zigzag leads from a fallen hand's last kept point ahead of the line: what arrives ahead of this
    point arrives in just the part behind the line.
    """
    return hand, line[hand] + 1
