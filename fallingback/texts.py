"""Texts: pasts and lines, each with its one writing."""

from fallingback.errors import NoLine, NoText
from fallingback.pasts import MOST_HANDS, check_past, is_name, is_past, is_whole

MOST_FIGURES = 9
GREATEST_NUMBER = 999999999


def show_past(past):
    """The writing of the past."""
    check_past(past)
    return "\n".join([_show_row(hand, past[hand]) for hand in sorted(past)])


def show_line(line):
    """The writing of the line."""
    if not _is_some_line(line):
        raise NoLine("this is no dict of one to forty names to numbers of nine figures at most")
    return " ".join([show_point(point) for point in sorted(line.items())])


def read_past(text):
    """The past that the text writes."""
    _check_text(text)
    past = dict([_row_read(written) for written in text.split("\n")])
    # A past has one writing: a text that was read, but isn't that one, writes none.
    if not is_past(past) or show_past(past) != text:
        raise NoText("this text writes no past")
    return past


def read_line(text):
    """The line, of any past, that the text writes."""
    _check_text(text)
    points = [point_read(word) for word in text.split(" ")]
    if None in points:
        raise NoText("a word of this text writes no point")
    line = dict(points)
    # A line has one writing, too.
    if not _is_some_line(line) or show_line(line) != text:
        raise NoText("this text writes no line")
    return line


def show_point(point):
    """The writing of the point."""
    hand, number = point
    return f"{hand}={number}"


def point_read(word):
    """The point, a tuple (hand, number), that the word writes, or None where it writes none."""
    hand, _, figures = word.partition("=")
    number = number_read(figures)
    if not is_name(hand) or number is None:
        return None
    return hand, number


def number_read(word):
    """The number that the word writes, or None where it writes none."""
    # Python itself would read signs, blanks and the figures of other scripts, too.
    if not 1 <= len(word) <= MOST_FIGURES or not all(["0" <= sign <= "9" for sign in word]):
        return None
    number = int(word)
    if str(number) != word:
        return None
    return number


def _is_some_line(thing):
    """Whether the thing is a dict of one to forty names to whole numbers from 0 to nine figures."""
    if not isinstance(thing, dict) or not 1 <= len(thing) <= MOST_HANDS:
        return False
    return all([is_name(hand) and _is_short(thing[hand]) for hand in thing])


def _is_short(thing):
    """Whether the thing is a whole number from 0 to nine figures."""
    return is_whole(thing) and 0 <= thing <= GREATEST_NUMBER


def _check_text(thing):
    """Refuses what is no text."""
    if not isinstance(thing, str):
        raise NoText("this is no text")


def _show_row(hand, row):
    """The writing of the hand's row."""
    return " ".join([f"{hand}:"] + [_show_deed(deed) for deed in row])


def _show_deed(deed):
    """The writing of the deed."""
    if deed[0] == "keep":
        return "*"
    if deed[0] == "hear":
        return str(deed[1])
    return f"{deed[1]}>{deed[2]}"


def _row_read(written):
    """A hand and its row; where a word writes no deed, None stands in the row."""
    words = written.split(" ")
    return words[0][:-1], [_deed_read(word) for word in words[1:]]


def _deed_read(word):
    """The deed that the word writes, or None where it writes none."""
    if word == "*":
        return ("keep",)
    figures, sign, hand = word.partition(">")
    letter = number_read(figures)
    if letter is None:
        return None
    return ("tell", letter, hand) if sign else ("hear", letter)
