"""Zigzags: letters that lead from a point to a point, though perhaps no word came that way."""

from fallingback.pasts import check_past, check_point, hearings, is_whole, tellings


def is_zigzag(past, one, other, thing):
    """Whether the thing is a zigzag from the point one to the point other."""
    _check_ends(past, one, other)
    return leads(past, one, other, thing)


def zigzag_between(past, one, other):
    """A zigzag of the fewest letters from the point one to the point other, or None."""
    _check_ends(past, one, other)
    return fewest_letters(past, one, other)


def leads(past, one, other, thing):
    """Whether the thing is a zigzag, of what is known to be a past and points of it."""
    if not isinstance(thing, list) or not thing:
        return False
    told = tellings(past)
    heard = hearings(past)
    place = one
    for letter in thing:
        # A truth or a fraction would find the number that it equals, and a list fits no dict.
        if not is_whole(letter) or letter not in heard or not _goes_on(place, told[letter]):
            return False
        place = heard[letter]
    return _arrives(place, other)


def fewest_letters(past, one, other):
    """A zigzag of the fewest letters, or None, of what is known to be a past and points of it."""
    told = tellings(past)
    heard = hearings(past)
    ahead = {}
    reached = _told_behind(told, heard, one)
    for letter in reached:
        ahead[letter] = None
    while reached:
        for letter in reached:
            if _arrives(heard[letter], other):
                return _way_to(ahead, letter)
        reached = _next_reached(told, heard, ahead, reached)
    return None


def _check_ends(past, one, other):
    """Refuses what is no past, then what are no points of it."""
    check_past(past)
    check_point(past, one)
    check_point(past, other)


def _goes_on(place, part):
    """Whether the part is the place's hand's own, of the place's number or a later one.

    The place is the zigzag's first point, or the part in which the letter ahead was heard.
    """
    return part[0] == place[0] and part[1] >= place[1]


def _arrives(part, point):
    """Whether the part is one of the point's hand, ahead of the point."""
    return part[0] == point[0] and part[1] < point[1]


def _told_behind(told, heard, place):
    """The letters that may come next behind the place, rising; those that lie lead nowhere."""
    return [letter for letter in sorted(heard) if _goes_on(place, told[letter])]


def _next_reached(told, heard, ahead, reached):
    """The letters not yet in ahead that come next behind those reached; they are added to it."""
    further = []
    for letter in reached:
        for following in _told_behind(told, heard, heard[letter]):
            if following not in ahead:
                ahead[following] = letter
                further.append(following)
    return further


def _way_to(ahead, last):
    """The letters on the way to the last one, from the first one on."""
    way = []
    letter = last
    while letter is not None:
        way.append(letter)
        letter = ahead[letter]
    return way[::-1]
