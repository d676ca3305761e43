"""What several tests share: things of any kind, pasts, and slow answers straight from the words."""

import copy
import itertools
import random

from fallingback.errors import FallError
from fallingback.nets import Net


class NoEqual:
    """A thing that can be neither compared nor put into a dict or a set."""

    __hash__ = None

    def __eq__(self, other):
        raise RuntimeError("compared")


def nested(wrap, times):
    """A thing that many times within another."""
    thing = ()
    for _ in range(times):
        thing = wrap(thing)
    return thing


def things():
    """Things of any kind; none of them is a name, a past, a letter, a point or a zigzag of PAST."""
    return [
        None, True, False, -1, 99, 10 ** 40, 0.0, 1.0, 1.5, float("nan"), float("inf"), 1j, "", "An", "0",
        "an bo", b"", b"an", bytearray(b"an"), [], [None], [[]], ["an"], (), (None,), ([],), ("an",), ("an", "bo"),
        ("an", None), (None, 0), ([], 0), ("an", []), {}, {"an": None}, {"an": 0}, {1: []}, {None: []}, {("an",): []},
        set(), {"an"}, frozenset(), frozenset({"an"}), object(), object, len, Ellipsis, range(3), iter([]), NoEqual(),
        (NoEqual(), NoEqual()), [NoEqual()], {"an": NoEqual()}, {"an": [NoEqual()]}, {"an": [(NoEqual(),)]},
        nested(lambda thing: [thing], 20), nested(lambda thing: (thing, thing), 10),
        nested(lambda thing: {"an": thing}, 20), nested(lambda thing: {"an": [(thing,)]}, 6),
    ]


# an keeps twice, bo once, cy never, di does nothing; 7 and 12 lie.
PAST = {
    "cy": [("hear", 3), ("tell", 4, "an"), ("tell", 12, "bo")],
    "an": [("tell", 0, "bo"), ("keep",), ("hear", 4), ("tell", 5, "bo"), ("keep",), ("tell", 7, "cy")],
    "di": [],
    "bo": [("hear", 0), ("tell", 3, "cy"), ("keep",), ("hear", 5)],
}


# What lacks little to be a past.
BROKEN = [
    {}, {"an": ()}, {"an": [("hear", 0)]}, {"an": [("tell", 0, "an")]}, {"an": [["keep"]]}, {"An": []},
    {"an": [("tell", True, "bo")], "bo": []}, {"an": [], "An": []},
    {"an": [("hear", 1), ("tell", 0, "bo")], "bo": [("hear", 0), ("tell", 1, "an")]},
]


# What is no point of PAST.
NO_POINTS = [("an", -1), ("an", 4), ("an", 10 ** 30), ("bo", 3), ("cy", 2), ("di", 2), ("ed", 0), ("", 0), ("an",), ("an", 0, 0),
             ["an", 0], ("an", True), ("an", False), ("an", 0.0), ("an", 1.0), ("an", "0"), ("an", None), (0, "an"), {"an": 0},
             (b"an", 0), (["an"], 0), ("an", [0]), (("an",), 0), (NoEqual(), 0), ("an", NoEqual()), "an", "an=0", "a0", {"an", 0}]


# The presents of PAST.
PRESENTS = [("an", 3), ("bo", 2), ("cy", 1), ("di", 1)]


def whereabouts(past):
    """Of each letter where it was told, and of each heard one where it was heard: the parts."""
    told, heard = {}, {}
    for hand, row in past.items():
        for at, deed in enumerate(row):
            if deed[0] == "tell":
                told[deed[1]] = (hand, row[:at].count(("keep",)))
            if deed[0] == "hear":
                heard[deed[1]] = (hand, row[:at].count(("keep",)))
    return told, heard


def slowly_a_zigzag(past, one, other, letters):
    """Whether the letters are a zigzag: the words of [9], one by one."""
    told, heard = whereabouts(past)
    if not letters or any(letter not in heard for letter in letters):
        return False
    first, last = told[letters[0]], heard[letters[-1]]
    if first[0] != one[0] or first[1] < one[1] or last[0] != other[0] or last[1] >= other[1]:
        return False
    return all(told[after][0] == heard[ahead][0] and told[after][1] >= heard[ahead][1]
               for ahead, after in zip(letters, letters[1:]))


def slowly_a_line(past, line):
    """Whether a dict of points of all hands is a line: the words of [11]."""
    told, heard = whereabouts(past)
    return not any(heard[letter][1] < line[heard[letter][0]] and told[letter][1] >= line[told[letter][0]]
                   for letter in heard)


def last_points(past):
    """The number of each hand's present."""
    return {hand: row.count(("keep",)) + 1 for hand, row in past.items()}


def slowly_all_lines(past):
    """All lines of a small past, in the order of their numbers by hands' names."""
    hands = sorted(past)
    found = []
    for numbers in itertools.product(*[range(last_points(past)[hand] + 1) for hand in hands]):
        line = dict(zip(hands, numbers))
        if slowly_a_line(past, line):
            found.append(line)
    return found


def slowly_left(past, fallen, lines=None):
    """The line of the fall: the latest of all lines in which none of the fallen is at its present."""
    ends = last_points(past)
    fit = [line for line in lines or slowly_all_lines(past) if all(line[hand] < ends[hand] for hand in fallen)]
    latest = {hand: max(line[hand] for line in fit) for hand in past}
    assert latest in fit
    return latest


def stepwise_left(past, fallen):
    """The line of the fall in a past of any size: all go back step by step, until nothing is heard untold."""
    told, heard = whereabouts(past)
    line = {hand: end - (hand in fallen) for hand, end in last_points(past).items()}
    back = True
    while back:
        back = False
        for letter, (hearer, part) in heard.items():
            teller, where = told[letter]
            if where >= line[teller] and part < line[hearer]:
                line[hearer] = part
                back = True
    return line


def slowly_row_left(row, number):
    """What the row keeps ahead of its point: by the place of its keeping."""
    ends = [0] + [at + 1 for at, deed in enumerate(row) if deed == ("keep",)] + [len(row)]
    return row[:ends[number]]


def slowly_wary(past):
    """Whether in each part all hearings stand ahead of all tellings: part by part."""
    for row in past.values():
        words = " ".join(deed[0] for deed in row)
        for part in words.split("keep"):
            if "tell" in part and "hear" in part[part.index("tell"):]:
                return False
    return True


def slowly_heard_of(past, point):
    """The deeds that the point has heard of, as hands and places in their rows: the words of [21], one by one."""
    hand, number = point
    tellings = {deed[1]: (teller, at) for teller, row in past.items() for at, deed in enumerate(row) if deed[0] == "tell"}
    heard_of = {(hand, at) for at in range(len(slowly_row_left(past[hand], number)))}
    more = True
    while more:
        letters = [past[one][at][1] for one, at in heard_of if past[one][at][0] == "hear"]
        found = {(teller, at) for teller, end in [tellings[letter] for letter in letters] for at in range(end + 1)}
        more = not found <= heard_of
        heard_of |= found
    return heard_of


def some_hands(hands):
    """All lists of one or more of the hands, in one order each."""
    return [list(some) for many in range(1, len(hands) + 1) for some in itertools.combinations(sorted(hands), many)]


def dicts_and_lists(thing):
    """All dicts and lists within the thing, itself too, as often as they stand there."""
    if isinstance(thing, dict):
        return [thing] + [part for within in thing.values() for part in dicts_and_lists(within)]
    if isinstance(thing, (list, tuple)):
        own = [thing] if isinstance(thing, list) else []
        return own + [part for within in thing for part in dicts_and_lists(within)]
    return []


def wary_pasts():
    """Pasts of wary nets that have lived, falls among it."""
    found = []
    for seed in range(90):
        hands = ["bo", "an", "di", "cy"][:1 + seed % 4]
        found.append(done_by_chance(Net(hands, wary=True), seed, hands, 6 + seed % 40, falls=0.04).past())
    return found


def points_of(past):
    """All points of the past."""
    return [(hand, number) for hand in sorted(past) for number in range(past[hand].count(("keep",)) + 2)]


def refilled(past):
    """The same past, filled in other orders: backwards, and from the second hand on."""
    hands = list(past)
    return [{hand: past[hand] for hand in hands[::-1]}, {hand: past[hand] for hand in hands[1:] + hands[:1]}]


def raised(call, *args):
    """The class of the refusal that the call raises, or None."""
    try:
        call(*args)
    except FallError as error:
        return type(error)
    return None


def histories(hands, most):
    """All pasts of so many moves at most, made by doing them."""
    found = []
    todo = [({hand: [] for hand in hands}, [], 0, 0)]
    while todo:
        past, lying, letter, moves = todo.pop()
        found.append(past)
        if moves == most:
            continue
        for one in hands:
            todo.append((grown(past, one, ("keep",)), lying, letter, moves + 1))
            for other in hands:
                if other != one:
                    told = grown(past, one, ("tell", letter, other))
                    todo.append((told, lying + [(letter, other)], letter + 1, moves + 1))
        for way in lying:
            heard = grown(past, way[1], ("hear", way[0]))
            todo.append((heard, [w for w in lying if w != way], letter, moves + 1))
    return found


def grown(past, hand, deed):
    """The past with one more deed of the hand."""
    more = copy.deepcopy(past)
    more[hand].append(deed)
    return more


def chance_moves(net, seed, hands, moves, falls=0.1):
    """Moves of chance for the net, the same for the same seed: each told is to be done before the next is asked."""
    chance = random.Random(seed)
    for _ in range(moves):
        move = chance.random()
        lying = net.lying()
        if move < falls:
            yield "fall", [chance.sample(hands, chance.choice([1, 1, min(2, len(hands))]))]
        elif move < 0.3 or len(hands) == 1:
            yield "keep", [chance.choice(hands)]
        elif lying and move < 0.65:
            yield "hear", [chance.choice(lying)]
        else:
            yield "tell", chance.sample(hands, 2)


def done_by_chance(net, seed, hands, moves, falls=0.1):
    """The net, behind so many moves of chance."""
    for word, args in chance_moves(net, seed, hands, moves, falls):
        getattr(net, word)(*args)
    return net


def big_past(seed, hands, deeds):
    """A past of many deeds, the same one for the same seed."""
    chance = random.Random(seed)
    names = ["".join(chance.choice("abcxyz") for _ in range(5)) + "qrstuvwxyz"[at % 10] + "lmnop"[at // 10]
             for at in range(hands)]
    past = {name: [] for name in names}
    numbers = chance.sample(range(10 ** 9), deeds)
    lying = []
    for number in numbers:
        move = chance.random()
        if lying and move < 0.4:
            letter, hearer = lying.pop(chance.randrange(len(lying)))
            past[hearer].append(("hear", letter))
        elif move < 0.55:
            past[chance.choice(names)].append(("keep",))
        else:
            teller, hearer = chance.sample(names, 2)
            past[teller].append(("tell", number, hearer))
            lying.append((number, hearer))
    return past


def staircase(hands, levels):
    """A past with one zigzag down all its parts: the past, the two points, the letters on the way.

    In each part each hand tells the next hand, and then hears the hand ahead; the last hand's letters
    are heard by the first hand, one part earlier.
    """
    names = [chr(97 + at // 10) + chr(97 + at % 10) for at in range(hands)]
    past = {name: [] for name in names}
    for level in range(levels):
        for at, name in enumerate(names):
            if level > 0 or at < hands - 1:
                past[name].append(("tell", level * hands + at, names[(at + 1) % hands]))
            if at > 0:
                past[name].append(("hear", level * hands + at - 1))
            elif level < levels - 1:
                past[name].append(("hear", (level + 1) * hands + hands - 1))
            past[name].append(("keep",))
    way = [level * hands + at for level in range(levels)[::-1] for at in range(hands)][:-1]
    return past, (names[0], levels - 1), (names[-1], 1), way


def small_pasts():
    """Small pasts: all of a few moves, some of a few more, and some of chance in which zigzags lead back."""
    return (histories(["an", "bo"], 4) + histories(["an", "bo"], 6)[::19] + histories(["an", "bo", "cy"], 3)
            + histories(["an", "bo", "cy"], 4)[::23] + [big_past(seed, 2 + seed % 3, 16 + seed % 16) for seed in range(60)])
