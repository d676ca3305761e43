"""The desk: a net that is told and asked in rows of words."""

from fallingback.errors import NoNet, NoRow
from fallingback.falls import why_back
from fallingback.lines import lines_with
from fallingback.needed import needed_points, useless_points
from fallingback.nets import Net
from fallingback.pasts import is_name, presents
from fallingback.safe import must_keep, safe_line
from fallingback.texts import number_read, point_read, show_line, show_point

# Behind each first word the forms of the others; two dots: the form ahead of them as often as one likes.
FORMS = {
    "net": ("NAME", ".."),
    "wary": ("NAME", ".."),
    "tell": ("NAME", "NAME"),
    "hear": ("N",),
    "keep": ("NAME",),
    "fall": ("NAME", ".."),
    "points": (),
    "lie": (),
    "needed": (),
    "useless": (),
    "safe": (),
    "must": ("NAME", "N"),
    "with": ("HAND=N", ".."),
    "why": ("NAME", "NAME", ".."),
}


def _row_read(row):
    """The row's first word, and the things that the others write: names, numbers and points."""
    if not isinstance(row, str):
        raise NoRow("this is no text")
    words = row.split(" ")
    word = words[0]
    if word not in FORMS:
        raise NoRow("no row begins so")
    forms = _forms_of(word, len(words) - 1)
    if len(forms) != len(words) - 1:
        raise NoRow("this row has too few words or too many")
    things = [_thing_read(other, form) for other, form in zip(words[1:], forms)]
    if None in things:
        raise NoRow("a word of this row is of another form")
    if word == "with" and len(dict(things)) < len(things):
        raise NoRow("two of these points are of one hand")
    return word, things


def _forms_of(word, many):
    """The forms of the words behind the first one, where so many stand there."""
    forms = list(FORMS[word])
    if ".." in forms:
        forms.pop()
        forms.extend([forms[-1]] * (many - len(forms)))
    return forms


def _thing_read(word, form):
    """What the word writes, or None where it isn't of the form."""
    if form == "N":
        return number_read(word)
    if form == "HAND=N":
        return point_read(word)
    return word if is_name(word) else None


def _tell(net, things):
    """The letter that the one hand tells the other."""
    one, other = things
    return str(net.tell(one, other))


def _hear(net, things):
    """The letter is heard."""
    net.hear(things[0])
    return "ok"


def _keep(net, things):
    """The number of the hand's new point."""
    return str(net.keep(things[0]))


def _fall(net, things):
    """The line of the hands' fall."""
    return show_line(net.fall(things))


def _points(net, _):
    """The presents' numbers."""
    return show_line(presents(net.past()))


def _lie(net, _):
    """The letters that lie."""
    return _listed(net.lying())


def _needed(net, _):
    """The needed points."""
    return _listed([show_point(point) for point in needed_points(net.past())])


def _useless(net, _):
    """The useless points."""
    return _listed([show_point(point) for point in useless_points(net.past())])


def _safe(net, _):
    """The safe line."""
    return show_line(safe_line(net.past()))


def _must(net, things):
    """The hands that must keep a point, so that the part is safe."""
    hand, number = things
    return _listed(must_keep(net.past(), (hand, number)))


def _with(net, things):
    """The least and the greatest line with the points, or a zigzag between two of them."""
    told = lines_with(net.past(), dict(things))
    if told[0] == "zigzag":
        return f"zigzag {_listed(told[3])}"
    return f"least {show_line(told[1])} greatest {show_line(told[2])}"


def _why(net, things):
    """Why the first hand goes back where the others fall."""
    hand, *hands = things
    letters = why_back(net.past(), hands, hand)
    if letters is None:
        return "stays"
    return _listed(letters) if letters else "itself"


def _listed(things):
    """The things with blanks between, or none."""
    return " ".join([str(thing) for thing in things]) if things else "none"


ANSWERS = {
    "tell": _tell,
    "hear": _hear,
    "keep": _keep,
    "fall": _fall,
    "points": _points,
    "lie": _lie,
    "needed": _needed,
    "useless": _useless,
    "safe": _safe,
    "must": _must,
    "with": _with,
    "why": _why,
}


class Desk:
    """A net, or none at first, and what is said to it in rows of words."""

    def __init__(self):
        self._net = None

    def say(self, row):
        """What is told of the row when it is done or asked."""
        word, things = _row_read(row)
        if word in ("net", "wary"):
            self._net = Net(things, wary=word == "wary")
            return "ok"
        if self._net is None:
            raise NoNet("there is no net yet")
        answer = ANSWERS[word]
        return answer(self._net, things)
