"""Lines: one point of each hand, so that nothing is heard ahead of them that was told behind them."""

from fallingback.errors import NoLine, NoPoints, TooMany
from fallingback.pasts import check_past, hearings, is_point, present_of, tellings
from fallingback.zigzags import fewest_letters

MOST_LINES = 300


def is_line(past, thing):
    """Whether the thing is a line of the past."""
    check_past(past)
    return _stands_as_line(past, thing)


def lines_with(past, points):
    """The least and the greatest line that have the points, or a zigzag between two of them."""
    check_past(past)
    if not _are_points(past, points):
        raise NoPoints("these are no points of the past, a dict from hands to numbers")
    least = least_line(past, {**beginnings_of(past), **points})
    passed = [hand for hand in sorted(points) if least[hand] > points[hand]]
    if passed:
        return _zigzag_from(past, points, passed[0])
    return "lines", least, greatest_line(past, {**presents_of(past), **points})


def earlier_of(past, line, other):
    """The line with the lesser number of each hand."""
    _check_lines(past, line, other)
    return {hand: min(line[hand], other[hand]) for hand in sorted(past)}


def later_of(past, line, other):
    """The line with the greater number of each hand."""
    _check_lines(past, line, other)
    return {hand: max(line[hand], other[hand]) for hand in sorted(past)}


def lines_between(past, line, other):
    """All lines from the one to the other, rising as the lists of their numbers by hands' names."""
    _check_lines(past, line, other)
    found = []
    if any([line[hand] > other[hand] for hand in past]):
        return found
    tellers = parts_told(past)
    following = {hand: line[hand] for hand in sorted(past)}
    while following is not None:
        if len(found) == MOST_LINES:
            raise TooMany("more than three hundred lines lie between these")
        found.append(following)
        following = _following_line(tellers, line, other, following)
    return found


def beginnings_of(past):
    """The line of all beginnings."""
    return {hand: 0 for hand in sorted(past)}


def presents_of(past):
    """The line of all presents."""
    return {hand: present_of(past, hand) for hand in sorted(past)}


def least_line(past, numbers):
    """The least line of which no hand's number is lesser than in numbers."""
    return _raised(parts_told(past), numbers)


def greatest_line(past, numbers):
    """The greatest line of which no hand's number is greater than in numbers."""
    hearers = _parts_beside(tellings(past), hearings(past))
    line = dict(numbers)
    seen = presents_of(past)
    waiting = sorted(line)
    while waiting:
        hand = waiting.pop()
        number = line[hand]
        for part in range(number, seen[hand]):
            for hearer, heard in hearers.get((hand, part), []):
                if heard < line[hearer]:
                    line[hearer] = heard
                    waiting.append(hearer)
        seen[hand] = number
    return line


def parts_told(past):
    """Of each part in which letters were heard, the parts in which these were told."""
    return _parts_beside(hearings(past), tellings(past))


def _raised(tellers, numbers):
    """The numbers raised until they are a line; tellers as parts_told tells them."""
    line = dict(numbers)
    seen = {hand: 0 for hand in line}
    waiting = sorted(line)
    while waiting:
        hand = waiting.pop()
        number = line[hand]
        # A hand tells itself nothing: while its own parts are gone through, its number stays.
        for part in range(seen[hand], number):
            for teller, told in tellers.get((hand, part), []):
                if told >= line[teller]:
                    line[teller] = told + 1
                    waiting.append(teller)
        seen[hand] = number
    return line


def _parts_beside(parts, others):
    """Of each part in parts, the parts in others of the same letters; letters in one alone are left out."""
    beside = {}
    for letter in parts:
        if letter in others:
            beside.setdefault(parts[letter], []).append(others[letter])
    return beside


def _are_points(past, thing):
    """Whether the thing is a dict from hands of the past to numbers of points of theirs."""
    return isinstance(thing, dict) and all([is_point(past, point) for point in thing.items()])


def _stands_as_line(past, thing):
    """Whether the thing is a line of what is known to be a past."""
    if not _are_points(past, thing) or len(thing) != len(past):
        return False
    told = tellings(past)
    heard = hearings(past)
    return all([_is_behind(thing, heard[letter]) or not _is_behind(thing, told[letter]) for letter in heard])


def _is_behind(line, part):
    """Whether the part is behind its hand's point of the line."""
    return part[1] >= line[part[0]]


def _check_lines(past, line, other):
    """Refuses what is no past, then what are no lines of it."""
    check_past(past)
    for thing in (line, other):
        if not _stands_as_line(past, thing):
            raise NoLine("this is no line of the past")


def _zigzag_from(past, points, hand):
    """A zigzag from the hand's point to one of the points.

    The others' lines pass the hand's point: so one of them is always reached.
    """
    one = (hand, points[hand])
    for other in sorted(points.items()):
        letters = fewest_letters(past, one, other)
        if letters is not None:
            break
    return "zigzag", one, other, letters


def _following_line(tellers, line, other, last):
    """The line that comes next behind the last one, of those from line to other, or None."""
    hands = sorted(line)
    for at in reversed(range(len(hands))):
        if last[hands[at]] < other[hands[at]]:
            # The other line has these numbers or greater ones: what is raised from them never passes it.
            following = _raised(tellers, _numbers_behind(line, last, hands, at))
            if all([following[hand] == last[hand] for hand in hands[:at]]):
                return following
    return None


def _numbers_behind(line, last, hands, at):
    """The least numbers of what is as the last line up to the hand there, and greater from it on."""
    numbers = {hand: line[hand] for hand in hands}
    for hand in hands[:at]:
        numbers[hand] = last[hand]
    numbers[hands[at]] = last[hands[at]] + 1
    return numbers
