"""The desk [23, 24]."""

import inspect
import itertools
import random
import re
import unittest

from fallingback.desk import Desk
from fallingback.errors import Alike, NoHand, NoHands, NoLetter, NoNet, NoPart, NoPoints, NoRow
from fallingback.falls import why_back
from fallingback.lines import lines_with
from fallingback.needed import needed_points, useless_points
from fallingback.nets import Net
from fallingback.pasts import letters_lying, presents
from fallingback.safe import must_keep, safe_line
from fallingback.texts import show_line
from support import chance_moves, last_points, points_of, raised, things

NAMES = [one + other for one in "abcdefgh" for other in "abcde"]

# One row of each form.
FORMS = ["net an", "net an bo cy", "wary an", "wary an bo cy", "tell an bo", "hear 0", "keep an", "fall an", "fall an bo", "points",
         "lie", "needed", "useless", "safe", "must an 0", "with an=0", "with an=0 bo=1", "why an bo", "why an an", "why an bo cy"]

NAME = "[a-z]{1,8}"
NUMBER = "(?:0|[1-9][0-9]{0,8})"
PATTERN = re.compile(f"(net|wary|fall)( {NAME})+|tell {NAME} {NAME}|hear {NUMBER}|keep {NAME}|points|lie|needed|useless|safe"
                     f"|must {NAME} {NUMBER}|with( {NAME}={NUMBER})+|why {NAME}( {NAME})+")


def slowly_a_row(thing):
    """Whether the thing is a row: by a pattern, and of the points of with that they are of unlike hands."""
    if not isinstance(thing, str) or not PATTERN.fullmatch(thing):
        return False
    hands = [word.partition("=")[0] for word in thing.split(" ")[1:]]
    return not thing.startswith("with") or len(set(hands)) == len(hands)


def listed(things):
    """The things as a desk writes lists."""
    return " ".join(str(thing) for thing in things) or "none"


def written(points):
    """The points as a desk writes lists of them."""
    return listed(f"{hand}={number}" for hand, number in points)


def asked_of(past, row):
    """What the stages' functions tell of the past and the things of an asking row, written."""
    word, *words = row.split(" ")
    if word == "points":
        return show_line(presents(past))
    if word == "lie":
        return listed(letters_lying(past))
    if word == "needed":
        return written(needed_points(past))
    if word == "useless":
        return written(useless_points(past))
    if word == "safe":
        return show_line(safe_line(past))
    if word == "must":
        return listed(must_keep(past, (words[0], int(words[1]))))
    if word == "with":
        told = lines_with(past, {hand: int(number) for hand, number in (point.split("=") for point in words)})
        return listed(["zigzag"] + told[3]) if told[0] == "zigzag" else f"least {show_line(told[1])} greatest {show_line(told[2])}"
    letters = why_back(past, words[1:], words[0])
    return "stays" if letters is None else listed(letters) if letters else "itself"


def askings(past):
    """Rows that ask all of a net with this past."""
    hands, points = sorted(past), points_of(past)
    rows = ["points", "lie", "needed", "useless", "safe"]
    rows += [f"must {hand} {number}" for hand, number in points if number < last_points(past)[hand]]
    rows += [f"with {hand}={number}" for hand, number in points]
    rows += [f"with {one[0]}={one[1]} {other[0]}={other[1]}" for one in points for other in points[::2] if one[0] != other[0]]
    return rows + [f"why {hand} {' '.join(some)}" for hand in hands for many in (1, 2) for some in itertools.permutations(hands, many)]


def desk_of(*rows):
    """A desk to which the rows were said."""
    desk = Desk()
    for row in rows:
        desk.say(row)
    return desk


class Talk(unittest.TestCase):
    def talk(self, *pairs):
        """Says each row to one new desk, to which it tells what stands behind it."""
        desk = Desk()
        for row, due in pairs:
            with self.subTest(row):
                told = desk.say(row)
                self.assertEqual(told, due)
                self.assertIs(type(told), str)
        return desk


class DoneTest(Talk):
    def test_nets(self):
        self.talk(("net an", "ok"), ("points", "an=1"), ("net bo an", "ok"), ("points", "an=1 bo=1"), ("wary zz", "ok"),
                  ("points", "zz=1"), ("net tell net", "ok"), ("tell net tell", "0"), ("net " + " ".join(NAMES), "ok"),
                  ("points", " ".join(f"{name}=1" for name in NAMES)))

    def test_tell_hear_keep(self):
        self.talk(("net an bo", "ok"), ("tell an bo", "0"), ("tell bo an", "1"), ("lie", "0 1"), ("hear 1", "ok"), ("lie", "0"),
                  ("hear 0", "ok"), ("lie", "none"), ("keep an", "1"), ("keep an", "2"), ("keep bo", "1"), ("points", "an=3 bo=2"),
                  ("tell an bo", "2"))

    def test_letters_of_several_figures(self):
        desk = desk_of("net an bo", *["tell an bo"] * 11)
        self.assertEqual([desk.say("tell an bo"), desk.say("hear 10"), desk.say("hear 11")], ["11", "ok", "ok"])
        self.assertEqual(desk.say("lie"), "0 1 2 3 4 5 6 7 8 9")

    def test_fall(self):
        self.talk(("net bo an cy", "ok"), ("tell an bo", "0"), ("keep an", "1"), ("hear 0", "ok"), ("keep bo", "1"), ("tell an bo", "1"),
                  ("hear 1", "ok"), ("fall bo", "an=2 bo=1 cy=1"), ("lie", "1"), ("hear 1", "ok"), ("fall an", "an=1 bo=1 cy=1"),
                  ("lie", "none"), ("tell bo cy", "2"), ("fall cy bo", "an=2 bo=1 cy=0"), ("fall an bo cy", "an=1 bo=1 cy=0"),
                  ("points", "an=2 bo=2 cy=1"))

    def test_a_wary_net_keeps_by_itself(self):
        rows = ["tell an bo", "tell bo an", "hear 0", "points"]
        self.assertEqual([desk_of("net an bo", *rows[:-1]).say("points"), desk_of("wary an bo", *rows[:-1]).say("points")],
                         ["an=1 bo=1", "an=1 bo=2"])

    def test_another_net_in_the_place_of_the_one_that_was(self):
        desk = desk_of("wary an bo", "tell an bo", "keep an")
        self.assertEqual(desk.say("net an bo"), "ok")
        self.assertEqual([desk.say(row) for row in ("points", "lie", "tell bo an")], ["an=1 bo=1", "none", "0"])
        self.assertEqual([desk.say(row) for row in ("tell an bo", "hear 0", "points")], ["1", "ok", "an=1 bo=1"])
        self.assertEqual([desk.say(row) for row in ("wary cy", "points")], ["ok", "cy=1"])
        self.assertIs(raised(desk.say, "keep an"), NoHand)


class AskedTest(Talk):
    def desk(self):
        """A desk whose net has a useless point, an's first: what bo heard behind it, it had told an ahead of it."""
        return desk_of("net cy bo an", "tell bo an", "hear 0", "keep an", "tell an bo", "hear 1", "keep an", "tell bo cy")

    def told(self, *rows):
        return [self.desk().say(row) for row in rows]

    def test_points_and_lie(self):
        self.assertEqual(self.told("points", "lie"), ["an=3 bo=1 cy=1", "2"])

    def test_needed_and_useless(self):
        self.assertEqual(self.told("needed", "useless"), ["an=0 an=2 bo=0 cy=0", "an=1"])
        self.assertEqual([desk_of("net bo an").say(row) for row in ("needed", "useless")], ["an=0 bo=0", "none"])

    def test_points_rise_as_points(self):
        desk = desk_of("net an bo", *["tell bo an"] * 12, *["tell an bo"] * 13)
        for number in range(12):
            desk.say(f"hear {number}"), desk.say("keep an"), desk.say("tell an bo")
        for letter in range(25, 37):
            desk.say(f"hear {letter}")
        self.assertEqual(desk.say("useless"), listed(f"an={number}" for number in range(1, 13)))

    def test_safe_and_must(self):
        self.assertEqual(self.told("safe", "must an 0", "must bo 0", "must cy 0", "must an 2"),
                         ["an=0 bo=0 cy=0", "bo", "bo", "cy", "an bo"])
        desk = desk_of("net an bo", "tell an bo", "keep an", "hear 0", "keep bo")
        self.assertEqual([desk.say(row) for row in ("safe", "must an 0", "must bo 0", "must bo 1")], ["an=1 bo=1", "none", "none", "bo"])

    def test_with(self):
        self.assertEqual(self.told("with an=2", "with cy=0 an=3", "with an=0 bo=0 cy=1"), [
            "least an=2 bo=1 cy=0 greatest an=2 bo=1 cy=1", "least an=3 bo=1 cy=0 greatest an=3 bo=1 cy=0",
            "least an=0 bo=0 cy=1 greatest an=0 bo=0 cy=1"])

    def test_with_a_zigzag(self):
        self.assertEqual(self.told("with an=1", "with an=2 bo=0", "with bo=1 an=0"), ["zigzag 1 0", "zigzag 0", "zigzag 1"])

    def test_why(self):
        self.assertEqual(self.told("why an bo", "why bo an", "why bo bo", "why cy cy", "why cy an", "why bo cy an", "why an cy bo"),
                         ["0", "stays", "itself", "itself", "stays", "stays", "0"])
        desk = self.desk()
        desk.say("hear 2"), desk.say("tell cy an"), desk.say("hear 3")
        self.assertEqual([desk.say(row) for row in ("why cy bo", "why an cy", "why cy an bo", "why bo cy", "why an an cy")],
                         ["2", "3", "2", "stays", "itself"])

    def test_why_of_several_letters(self):
        desk = desk_of("net an bo cy", "tell an bo", "hear 0", "tell bo cy", "hear 1")
        self.assertEqual([desk.say(row) for row in ("why cy an", "why cy bo an", "why bo an", "why cy cy an")], ["0 1", "1", "0", "itself"])

    def test_asking_changes_nothing(self):
        desk = self.desk()
        net = Net(["an", "bo", "cy"])
        net.tell("bo", "an"), net.hear(0), net.keep("an"), net.tell("an", "bo"), net.hear(1), net.keep("an"), net.tell("bo", "cy")
        rows = askings(net.past())
        for row in rows + rows[::-1]:
            self.assertEqual(desk.say(row), asked_of(net.past(), row))


class FormTest(unittest.TestCase):
    def refused(self, thing):
        """Whether the thing is refused as no row by a desk with a net and by one without."""
        for desk in (Desk(), desk_of("net an bo cy", "tell an bo", "keep an")):
            with self.subTest(ascii(thing)):
                self.assertIs(raised(desk.say, thing), NoRow)

    def test_each_form_is_one(self):
        for row in FORMS + ["net a", "net abcdefgh", "hear 999999999", "must zz 10", "with an=999999999", "wary net wary", "why a b c d e"]:
            self.assertTrue(slowly_a_row(row))
            with self.subTest(row):
                self.assertIsNot(raised(desk_of("net an bo cy").say, row), NoRow)

    def test_things_of_any_kind(self):
        for thing in things() + [["net", "an"], ("net an",), ["net an"], b"net an", {"net": "an"}, {"net an"}, 0, None, Desk(), Desk]:
            self.refused(thing)

    def test_blanks(self):
        for row in FORMS:
            words = row.split(" ")
            for bad in (" " + row, row + " ", row + "  ", row + "\n", "\n" + row, row.replace(" ", "  "), row.replace(" ", "\t"),
                        row.replace(" ", "\n"), row.replace(" ", "\u00a0"), ",".join(words), "\t" + row, row + "\r", row + " \n"):
                if bad != row:
                    self.refused(bad)
        for row in ("", " ", "  ", "\n"):
            self.refused(row)

    def test_words_that_begin_no_row(self):
        for word in ("", "ne", "nett", "Net", "NET", "past", "thin", "line", "tells", "an", "0", "an=0", "ok", "none", "NAME", "..", "say"):
            for rest in ("", " an", " an bo", " 0", " an 0", " an=0"):
                self.refused(word + rest)

    def test_words_too_few(self):
        for row in ("net", "wary", "tell", "tell an", "hear", "keep", "fall", "must", "must an", "must 0", "with", "why", "why an"):
            self.refused(row)

    def test_words_too_many(self):
        for row in ("tell an bo cy", "tell an bo 0", "hear 0 0", "hear 0 an", "keep an bo", "keep an 1", "points an", "lie 0", "needed an",
                    "useless an=0", "safe an", "must an 0 0", "must an bo 0", "must an 0 bo", "points points"):
            self.refused(row)

    def test_words_of_another_form(self):
        names = ["An", "aN", "abcdefghi", "0", "a1", "an=0", "a-b", "a.b", "\u00e4n", "*", "..", "a_", "an\n", "\u0430n"]
        forms = ["net X", "wary X", "net an X", "tell X an", "tell an X", "keep X", "fall X", "fall an X", "must X 0", "why X an", "why an X",
                 "why an bo X", "with X=0", "with an=0 X=0"]
        numbers = ["an", "-1", "+1", "00", "01", "1.0", "1e1", "1_0", "0x1", "1000000000", "0000000000", "9" * 5000, "\u0661", "\u00b2",
                   "1\n", "=", "0,"]
        for form, words in [(form, names) for form in forms] + [(form, numbers) for form in ("hear X", "must an X", "with an=X",
                                                                                            "with an=0 bo=X")]:
            for word in words:
                self.refused(form.replace("X", word))

    def test_points_of_with(self):
        for row in ("with an", "with an 0", "with 0", "with =0", "with an=", "with =", "with an==0", "with an=0=0", "with an=0,bo=0",
                    "with an=0 an=0", "with an=0 an=1", "with an=0 bo=1 an=2", "with an=0 bo", "with an=0 0", "with zz=0 zz=0", "with an =0",
                    "with an:0", "with none"):
            self.refused(row)

    def test_words_by_chance(self):
        chance = random.Random(24)
        counted = {True: 0, False: 0}
        words = ["net", "wary", "tell", "hear", "keep", "fall", "points", "lie", "needed", "useless", "safe", "must", "with", "why", "an",
                 "bo", "zz", "0", "1", "01", "an=0", "bo=1", "an=00", "", "A"]
        for _ in range(6000):
            row = " ".join(chance.choice(words) for _ in range(chance.choice([1, 2, 2, 3, 3, 4])))
            due = slowly_a_row(row)
            self.assertIs(raised(desk_of("net an bo").say, row) is not NoRow, due, row)
            counted[due] += 1
        self.assertTrue(min(counted.values()) > 300, counted)


class RefusalsTest(unittest.TestCase):
    def test_no_net(self):
        for row in FORMS:
            if not row.startswith(("net", "wary")):
                for desk in (Desk(), Desk()):
                    with self.subTest(row):
                        self.assertIs(raised(desk.say, row), NoNet)

    def test_no_net_ahead_of_what_the_stages_refuse(self):
        for row in ("tell an an", "hear 7", "keep zz", "fall an an", "must an 99", "with an=99", "why an an an", "why zz bo bo"):
            self.assertIs(raised(Desk().say, row), NoNet)

    def test_no_net_behind_a_net_that_was_refused(self):
        desk = Desk()
        for row in ("net an an", "wary an an", "net an bo an"):
            self.assertIs(raised(desk.say, row), NoHands)
            self.assertIs(raised(desk.say, "points"), NoNet)
        self.assertEqual(desk.say("net an"), "ok")

    def test_as_the_stages_refuse(self):
        for row, kind in [
            ("net an an", NoHands), ("net an bo an", NoHands), ("wary bo bo", NoHands), ("net " + " ".join(NAMES + ["z"]), NoHands),
            ("wary " + " ".join(NAMES + ["z"]), NoHands), ("tell zz an", NoHand), ("tell an zz", NoHand), ("tell zz zz", NoHand),
            ("tell an an", Alike), ("hear 1", NoLetter), ("hear 2", NoLetter), ("hear 999999999", NoLetter), ("keep zz", NoHand),
            ("fall zz", NoHands), ("fall an an", NoHands), ("fall an zz", NoHands), ("fall an bo cy an", NoHands), ("must zz 0", NoPart),
            ("must an 2", NoPart), ("must bo 1", NoPart), ("must an 999999999", NoPart), ("with zz=0", NoPoints), ("with an=3", NoPoints),
            ("with an=0 bo=2", NoPoints), ("with an=0 zz=0", NoPoints), ("with an=999999999", NoPoints), ("why an zz", NoHands),
            ("why an bo bo", NoHands), ("why an an an", NoHands), ("why an bo zz", NoHands), ("why zz an", NoHand),
            ("why zz bo bo", NoHands), ("why zz zz", NoHands), ("why zz an bo cy", NoHand),
        ]:
            with self.subTest(row):
                self.assertIs(raised(desk_of("net an bo cy", "tell an bo", "tell an bo", "keep an", "hear 1").say, row), kind)

    def test_the_first_of_them_due(self):
        desk = desk_of("net an bo")
        for row, kind in [("tell an an an", NoRow), ("keep Zz", NoRow), ("why zz an 0", NoRow), ("with an=9 an=9", NoRow),
                          ("with zz=0 zz=0", NoRow), ("must zz 00", NoRow), ("fall an an ", NoRow), ("why zz an an", NoHands)]:
            with self.subTest(row):
                self.assertIs(raised(desk.say, row), kind)

    def test_what_is_refused_changes_nothing(self):
        for wary in (False, True):
            desk, net = desk_of("wary an bo cy" if wary else "net an bo cy"), Net(["an", "bo", "cy"], wary=wary)
            for word, args in chance_moves(net, 5, ["an", "bo", "cy"], 30):
                for bad in ("net an an", "wary bo bo", "tell an an", "tell zz an", "hear 400", "keep zz", "fall zz", "fall an an", "net",
                            "wary", "must an 99", "with an=99", "why an an an", " points", "", None, 0, ["net", "an"]):
                    self.assertIsNotNone(raised(desk.say, bad))
                getattr(net, word)(*args)
                desk.say(" ".join([word] + [str(arg) for arg in (args[0] if word == "fall" else args)]))
                for row in askings(net.past())[::5]:
                    self.assertEqual(desk.say(row), asked_of(net.past(), row))

    def test_a_refusal_tells_why(self):
        for desk, row in ((Desk(), None), (Desk(), "points"), (Desk(), "an"), (Desk(), "hear"), (Desk(), "keep A"), (Desk(), "net an an"),
                          (Desk(), "with an=0 an=0")):
            with self.assertRaises(ValueError) as caught:
                desk.say(row)
            self.assertTrue(str(caught.exception))


class LivedTest(unittest.TestCase):
    def lived(self, seed, hands, moves):
        """Whether a desk tells just what a net tells, and what the functions tell of its past."""
        wary = seed % 3 == 0
        desk, net = desk_of(("wary " if wary else "net ") + " ".join(hands)), Net(hands, wary=wary)
        for word, args in chance_moves(net, seed, hands, moves):
            told = getattr(net, word)(*args)
            due = "ok" if word == "hear" else show_line(told) if word == "fall" else str(told)
            self.assertEqual(desk.say(" ".join([word] + [str(arg) for arg in (args[0] if word == "fall" else args)])), due)
        return desk, net

    def test_a_desk_tells_just_what_the_functions_tell(self):
        counted = {}
        for seed in range(80):
            desk, net = self.lived(seed, ["bo", "di", "an", "cy"][:1 + seed % 4], 30 + seed % 9)
            past = net.past()
            for row in askings(past):
                due = asked_of(past, row)
                self.assertEqual(desk.say(row), due, ascii((past, row)))
                word = (row.split(" ")[0], "list" if due[0].isdigit() else due.split(" ")[0])
                counted[word] = counted.get(word, 0) + 1
        for word in (("with", "zigzag"), ("with", "least"), ("why", "stays"), ("why", "itself"), ("why", "list"), ("useless", "none"),
                     ("must", "none"), ("lie", "none"), ("lie", "list")):
            self.assertGreater(counted.get(word, 0), 5, word)

    def test_many_deeds(self):
        desk, net = self.lived(7, NAMES, 300)
        past = net.past()
        for row in askings(past)[:5] + askings(past)[5::211]:
            self.assertEqual(desk.say(row), asked_of(past, row))
        fallen = " ".join(NAMES[1:30:3])
        for hand in NAMES:
            self.assertEqual(desk.say(f"why {hand} {fallen}"), asked_of(past, f"why {hand} {fallen}"))

    def test_desks_share_nothing(self):
        one, other = desk_of("net an bo", "tell an bo"), desk_of("net an bo")
        self.assertEqual([one.say("lie"), other.say("lie"), other.say("tell bo an"), one.say("tell an bo")], ["0", "none", "0", "1"])

    def test_a_desk_is_made_of_nothing(self):
        self.assertEqual(list(inspect.signature(Desk).parameters), [])


if __name__ == "__main__":
    unittest.main()
