"""Pasts: names, rows of deeds, and what is told of their points, parts and letters."""

from fallingback.errors import NoHand, NoHands, NoLetter, NoPast, NoPoint

LONGEST_NAME = 8
MOST_HANDS = 40


def is_whole(thing):
    """Whether the thing is a whole number: an int that is no truth."""
    return isinstance(thing, int) and not isinstance(thing, bool)


def is_name(thing):
    """Whether the thing is a name: one to eight small letters."""
    if not isinstance(thing, str) or not 1 <= len(thing) <= LONGEST_NAME:
        return False
    return all(["a" <= sign <= "z" for sign in thing])


def is_past(thing):
    """Whether the thing is a past."""
    if not isinstance(thing, dict) or not 1 <= len(thing) <= MOST_HANDS:
        return False
    if not all([is_name(hand) for hand in thing]):
        return False
    if not all([_is_row(thing, hand) for hand in thing]):
        return False
    return _told_once(thing) and _heard_once(thing) and _can_have_come(thing)


def order_of(past):
    """An order in which the past can have come: whose next deed comes."""
    check_past(past)
    return _order_found(past)


def presents(past):
    """The number of each hand's present."""
    check_past(past)
    return {hand: present_of(past, hand) for hand in sorted(past)}


def told_in(past, letter):
    """The part, a tuple (hand, part), in which the letter was told."""
    check_past(past)
    return _tale(past, letter)


def heard_in(past, letter):
    """The part, a tuple (hand, part), in which the letter was heard; None where it lies."""
    check_past(past)
    _tale(past, letter)
    return hearings(past).get(letter)


def letters_lying(past):
    """The letters told and not heard, rising."""
    check_past(past)
    heard = hearings(past)
    return sorted([letter for letter in tellings(past) if letter not in heard])


def check_past(thing):
    """Refuses what is no past."""
    if not is_past(thing):
        raise NoPast("this is no past")


def check_point(past, thing):
    """Refuses what is no point of the past."""
    if not is_point(past, thing):
        raise NoPoint("this is no point of the past")


def check_hand(past, thing):
    """Refuses what is no hand of the past."""
    if not is_hand(past, thing):
        raise NoHand("this is no hand of the past")


def check_hands(past, thing):
    """Refuses what is no list of one or more unlike hands of the past."""
    if not are_unlike_names(thing) or not all([hand in past for hand in thing]):
        raise NoHands("these are no unlike hands of the past")


def are_unlike_names(thing):
    """Whether the thing is a list of one to forty unlike names."""
    if not isinstance(thing, list) or not 1 <= len(thing) <= MOST_HANDS:
        return False
    return all([is_name(hand) for hand in thing]) and len(set(thing)) == len(thing)


def is_hand(past, thing):
    """Whether the thing is a hand of the past."""
    # The kind is asked first: a thing of another kind may have no place in a dict.
    return is_name(thing) and thing in past


def is_point(past, thing):
    """Whether the thing is a point of the past: its hand, and a number up to its present's."""
    if not isinstance(thing, tuple) or len(thing) != 2:
        return False
    hand, number = thing
    # The kinds are asked first: a thing of another kind may have no place in an order.
    if not is_hand(past, hand) or not is_whole(number):
        return False
    return 0 <= number <= present_of(past, hand)


def is_kept_point(past, thing):
    """Whether the thing is a kept point of the past: a point, and not its hand's present."""
    return is_point(past, thing) and thing[1] < present_of(past, thing[0])


def present_of(past, hand):
    """The number of the hand's present: one more than its keepings."""
    return len([deed for deed in past[hand] if deed[0] == "keep"]) + 1


def row_ahead(row, number):
    """The deeds of the row ahead of its point of that number; a keeping that is the point is the last one."""
    ahead = []
    part = 0
    for deed in row:
        if part < number:
            ahead.append(deed)
        # A keeping ends a part, and so stands in it.
        if deed[0] == "keep":
            part += 1
    return ahead


def hearers_of(past):
    """The hand to which each letter was told, whether it heard it or not."""
    return {deed[1]: deed[2] for hand in past for deed in past[hand] if deed[0] == "tell"}


def tellings(past):
    """The part (hand, part) in which each letter was told."""
    return _parts_of(past, "tell")


def hearings(past):
    """The part (hand, part) in which each letter that was heard was heard."""
    return _parts_of(past, "hear")


def _parts_of(past, word):
    """The part in which each letter has its deed of that word."""
    parts = {}
    for hand in sorted(past):
        part = 0
        for deed in past[hand]:
            if deed[0] == "keep":
                part += 1
            elif deed[0] == word:
                parts[deed[1]] = (hand, part)
    return parts


def _tale(past, letter):
    """The part in which the letter was told; refuses what is no letter that was told."""
    told = tellings(past)
    # A truth or a fraction would find the number that it equals, and a list fits no dict.
    if not is_whole(letter) or letter not in told:
        raise NoLetter("this is no letter that was told")
    return told[letter]


def _is_row(past, hand):
    """Whether what the hand has is a row: a list of deeds."""
    row = past[hand]
    return isinstance(row, list) and all([_is_deed(past, hand, deed) for deed in row])


def _is_deed(past, hand, thing):
    """Whether the thing is a deed of the hand, as far as it can be seen by itself."""
    if not isinstance(thing, tuple) or not thing or not isinstance(thing[0], str):
        return False
    if thing[0] == "keep":
        return len(thing) == 1
    if thing[0] == "hear":
        return len(thing) == 2 and _is_letter(thing[1])
    if thing[0] == "tell":
        return len(thing) == 3 and _is_letter(thing[1]) and _is_other(past, hand, thing[2])
    return False


def _is_letter(thing):
    """Whether the thing is a letter: a whole number from 0 on."""
    return is_whole(thing) and thing >= 0


def _is_other(past, hand, thing):
    """Whether the thing is a hand of the past other than this one."""
    return is_hand(past, thing) and thing != hand


def _told_once(past):
    """Whether no letter is told twice."""
    told = [deed[1] for hand in past for deed in past[hand] if deed[0] == "tell"]
    return len(set(told)) == len(told)


def _heard_once(past):
    """Whether each letter that is heard is heard once, by the hand to which it was told."""
    hearers = hearers_of(past)
    for hand in past:
        for deed in past[hand]:
            # Taken out when heard: of a second hearing none is left.
            if deed[0] == "hear" and hearers.pop(deed[1], None) != hand:
                return False
    return True


def _can_have_come(past):
    """Whether all deeds find a place, each hearing behind its telling."""
    return len(_order_found(past)) == sum([len(past[hand]) for hand in past])


def _order_found(past):
    """The hands whose deeds come, one behind the other, as long as any deed can come."""
    hands = sorted(past)
    done = {hand: 0 for hand in hands}
    told = {}
    order = []
    came = True
    while came:
        came = False
        for hand in hands:
            end = _run_on(past[hand], done[hand], told)
            if end > done[hand]:
                order.extend([hand] * (end - done[hand]))
                done[hand] = end
                came = True
    return order


def _run_on(row, start, told):
    """Where the row that goes on from start must wait, for a letter untold or at its end.

    The letters that it tells on its way are added to told.
    """
    for at in range(start, len(row)):
        deed = row[at]
        if deed[0] == "hear" and deed[1] not in told:
            return at
        if deed[0] == "tell":
            told[deed[1]] = True
    return len(row)
