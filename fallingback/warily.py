"""Warily: pasts in which no part has a hearing behind a telling, and what a point has heard of."""

from fallingback.pasts import check_past, check_point, present_of, row_ahead


def is_wary(past):
    """Whether in each part all hearings stand ahead of all tellings."""
    check_past(past)
    return all([_is_wary_row(past[hand]) for hand in past])


def numbers_of(past, point):
    """Of each hand the number of the point behind its last telling that the point has heard of, or 0.

    Of the point's own hand it is the point's number.
    """
    check_past(past)
    check_point(past, point)
    heard = _heard_of(past, point)
    # What is heard of another hand ends with a telling: the present of so much of a row is the point behind it.
    numbers = {hand: present_of(heard, hand) if heard[hand] else 0 for hand in heard}
    numbers[point[0]] = point[1]
    return numbers


def told_since_point(row):
    """Whether the row's hand has told a letter since its last point."""
    told = False
    for deed in row:
        if deed[0] == "keep":
            told = False
        elif deed[0] == "tell":
            told = True
    return told


def _is_wary_row(row):
    """Whether no letter is heard behind one that was told in the same part."""
    return not any([told_since_point(row[:at]) for at, deed in enumerate(row) if deed[0] == "hear"])


def _heard_of(past, point):
    """The rows as far as the point has heard of them."""
    tales = _tales(past)
    ends = {hand: 0 for hand in sorted(past)}
    waiting = [(point[0], len(row_ahead(past[point[0]], point[1])))]
    while waiting:
        hand, end = waiting.pop()
        for deed in past[hand][ends[hand]:end]:
            if deed[0] == "hear":
                waiting.append(tales[deed[1]])
        ends[hand] = max(ends[hand], end)
    return {hand: past[hand][:ends[hand]] for hand in ends}


def _tales(past):
    """Of each letter its teller, and how many deeds stand in the teller's row up to the telling, itself too."""
    tales = {}
    for hand in past:
        for at, deed in enumerate(past[hand]):
            if deed[0] == "tell":
                tales[deed[1]] = (hand, at + 1)
    return tales
