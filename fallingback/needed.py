"""What is needed: points that stand in no line, and points to which a fall can still lead back."""

from fallingback.errors import NoPoint
from fallingback.falls import line_left
from fallingback.lines import beginnings_of, least_line
from fallingback.pasts import check_past, is_kept_point, present_of


def useless_points(past):
    """The kept points that stand in no line, rising."""
    check_past(past)
    return [point for point in _kept_points(past) if not _stands_in_a_line(past, point)]


def needed_points(past):
    """The kept points in the lines of the falls of each one hand alone, rising."""
    check_past(past)
    needing = _hands_needing(past)
    return [point for point in sorted(needing) if needing[point]]


def needed_by(past, point):
    """The hands of whose fall alone the line has the kept point, rising."""
    check_past(past)
    if not is_kept_point(past, point):
        raise NoPoint("this is no kept point of the past")
    return _hands_needing(past)[point]


def thinned_past(past):
    """The past without the keepings whose points aren't needed."""
    check_past(past)
    needing = _hands_needing(past)
    return {hand: _thinned_row(past, hand, needing) for hand in sorted(past)}


def _kept_points(past):
    """All points but the presents, rising."""
    return [(hand, number) for hand in sorted(past) for number in range(present_of(past, hand))]


def _stands_in_a_line(past, point):
    """Whether a line has the point."""
    hand, number = point
    numbers = beginnings_of(past)
    numbers[hand] = number
    return least_line(past, numbers)[hand] == number


def _hands_needing(past):
    """Of each kept point the hands, rising, of whose fall alone the line has it."""
    needing = {point: [] for point in _kept_points(past)}
    for fallen in sorted(past):
        for point in line_left(past, [fallen]).items():
            # A present is no kept point: nothing need be kept for it.
            if point in needing:
                needing[point].append(fallen)
    return needing


def _thinned_row(past, hand, needing):
    """The hand's row without the keepings whose points no hand needs."""
    row = []
    number = 0
    for deed in past[hand]:
        if deed[0] == "keep":
            number += 1
        if deed[0] != "keep" or needing[(hand, number)]:
            row.append(deed)
    return row
