"""What several tests share: things of any kind, pasts, and slow answers straight from the words."""

import copy
import random

from fallingback.errors import FallError


class NoEqual:
    """A thing that can be neither compared nor put into a dict or a set."""

    __hash__ = None

    def __eq__(self, other):
        raise RuntimeError("compared")


def nested(wrap, times):
    """A thing that many times within another."""
    thing = ()
    for _ in range(times):
        thing = wrap(thing)
    return thing


def things():
    """Things of any kind; none of them is a name, a past, a letter, a point or a zigzag of PAST."""
    return [
        None, True, False, -1, 99, 10 ** 40, 0.0, 1.0, 1.5, float("nan"), float("inf"), 1j, "", "An", "0",
        "an bo", b"", b"an", bytearray(b"an"), [], [None], [[]], ["an"], (), (None,), ([],), ("an",), ("an", "bo"),
        ("an", None), (None, 0), ([], 0), ("an", []), {}, {"an": None}, {"an": 0}, {1: []}, {None: []}, {("an",): []},
        set(), {"an"}, frozenset(), frozenset({"an"}), object(), object, len, Ellipsis, range(3), iter([]), NoEqual(),
        (NoEqual(), NoEqual()), [NoEqual()], {"an": NoEqual()}, {"an": [NoEqual()]}, {"an": [(NoEqual(),)]},
        nested(lambda thing: [thing], 20), nested(lambda thing: (thing, thing), 10),
        nested(lambda thing: {"an": thing}, 20), nested(lambda thing: {"an": [(thing,)]}, 6),
    ]


# an keeps twice, bo once, cy never, di does nothing; 7 and 12 lie.
PAST = {
    "cy": [("hear", 3), ("tell", 4, "an"), ("tell", 12, "bo")],
    "an": [("tell", 0, "bo"), ("keep",), ("hear", 4), ("tell", 5, "bo"), ("keep",), ("tell", 7, "cy")],
    "di": [],
    "bo": [("hear", 0), ("tell", 3, "cy"), ("keep",), ("hear", 5)],
}


def points_of(past):
    """All points of the past."""
    return [(hand, number) for hand in sorted(past) for number in range(past[hand].count(("keep",)) + 2)]


def refilled(past):
    """The same past, filled in other orders: backwards, and from the second hand on."""
    hands = list(past)
    return [{hand: past[hand] for hand in hands[::-1]}, {hand: past[hand] for hand in hands[1:] + hands[:1]}]


def raised(call, *args):
    """The class of the refusal that the call raises, or None."""
    try:
        call(*args)
    except FallError as error:
        return type(error)
    return None


def histories(hands, most):
    """All pasts of so many moves at most, made by doing them."""
    found = []
    todo = [({hand: [] for hand in hands}, [], 0, 0)]
    while todo:
        past, lying, letter, moves = todo.pop()
        found.append(past)
        if moves == most:
            continue
        for one in hands:
            todo.append((grown(past, one, ("keep",)), lying, letter, moves + 1))
            for other in hands:
                if other != one:
                    told = grown(past, one, ("tell", letter, other))
                    todo.append((told, lying + [(letter, other)], letter + 1, moves + 1))
        for way in lying:
            heard = grown(past, way[1], ("hear", way[0]))
            todo.append((heard, [w for w in lying if w != way], letter, moves + 1))
    return found


def grown(past, hand, deed):
    """The past with one more deed of the hand."""
    more = copy.deepcopy(past)
    more[hand].append(deed)
    return more


def big_past(seed, hands, deeds):
    """A past of many deeds, the same one for the same seed."""
    chance = random.Random(seed)
    names = ["".join(chance.choice("abcxyz") for _ in range(5)) + "qrstuvwxyz"[at % 10] + "lmnop"[at // 10]
             for at in range(hands)]
    past = {name: [] for name in names}
    numbers = chance.sample(range(10 ** 9), deeds)
    lying = []
    for number in numbers:
        move = chance.random()
        if lying and move < 0.4:
            letter, hearer = lying.pop(chance.randrange(len(lying)))
            past[hearer].append(("hear", letter))
        elif move < 0.55:
            past[chance.choice(names)].append(("keep",))
        else:
            teller, hearer = chance.sample(names, 2)
            past[teller].append(("tell", number, hearer))
            lying.append((number, hearer))
    return past


def staircase(hands, levels):
    """A past with one zigzag down all its parts: the past, the two points, the letters on the way.

    In each part each hand tells the next hand, and then hears the hand ahead; the last hand's letters
    are heard by the first hand, one part earlier.
    """
    names = [chr(97 + at // 10) + chr(97 + at % 10) for at in range(hands)]
    past = {name: [] for name in names}
    for level in range(levels):
        for at, name in enumerate(names):
            if level > 0 or at < hands - 1:
                past[name].append(("tell", level * hands + at, names[(at + 1) % hands]))
            if at > 0:
                past[name].append(("hear", level * hands + at - 1))
            elif level < levels - 1:
                past[name].append(("hear", (level + 1) * hands + hands - 1))
            past[name].append(("keep",))
    way = [level * hands + at for level in range(levels)[::-1] for at in range(hands)][:-1]
    return past, (names[0], levels - 1), (names[-1], 1), way
