"""What is safe: parts that can never be lost again, and who must keep a point so that a part is."""

from fallingback.errors import NoPart
from fallingback.falls import line_left
from fallingback.lines import beginnings_of, least_line
from fallingback.pasts import check_past, is_kept_point, present_of


def safe_line(past):
    """The line of the fall of all hands: each part ahead of it is safe."""
    check_past(past)
    return line_left(past, sorted(past))


def must_keep(past, part):
    """The hands, rising, that must keep a point now so that the part is safe; none where it is."""
    check_past(past)
    # Behind each point but the present begins a part of the same number, and there are no others.
    if not is_kept_point(past, part):
        raise NoPart("this is no part of the past")
    hand, number = part
    line = least_line(past, {**beginnings_of(past), hand: number + 1})
    # Each line that has the part ahead of it has these points or later ones: where one of them is a
    # present, it must be kept, and once all such are kept, this line itself can be gone back to.
    return [other for other in sorted(line) if line[other] == present_of(past, other)]
