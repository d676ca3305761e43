"""Texts [22]."""

import copy
import itertools
import random
import unittest

from fallingback.errors import NoLine, NoPast, NoText
from fallingback.pasts import is_past
from fallingback.texts import read_line, read_past, show_line, show_past
from support import (BROKEN, PAST, NoEqual, big_past, dicts_and_lists, raised, refilled, slowly_all_lines, small_pasts, staircase,
                     things, wary_pasts)

KEEP = ("keep",)

NAMES = [one + other for one in "abcdefgh" for other in "abcde"]

# Pasts with their writings.
WRITTEN = [
    ({"an": []}, "an:"),
    ({"bo": [], "an": []}, "an:\nbo:"),
    ({"an": [KEEP]}, "an: *"),
    ({"bo": [], "an": [KEEP, ("tell", 0, "bo"), KEEP, KEEP]}, "an: * 0>bo * *\nbo:"),
    ({"an": [KEEP, ("tell", 0, "bo")], "bo": [("hear", 0)]}, "an: * 0>bo\nbo: 0"),
    (PAST, "an: 0>bo * 4 5>bo * 7>cy\nbo: 0 3>cy * 5\ncy: 3 4>an 12>bo\ndi:"),
    ({"z": [("tell", 999999999, "abcdefgh")], "abcdefgh": [("hear", 999999999)]}, "abcdefgh: 999999999\nz: 999999999>abcdefgh"),
    ({"ab": [("tell", 10, "a")], "a": [("hear", 10), ("tell", 100000000, "b")], "b": []}, "a: 10 100000000>b\nab: 10>a\nb:"),
]

# Lines with their writings.
LINES = [
    ({"an": 0}, "an=0"),
    ({"bo": 12, "an": 999999999}, "an=999999999 bo=12"),
    ({"b": 1, "ab": 10, "a": 100, "abcdefgh": 0}, "a=100 ab=10 abcdefgh=0 b=1"),
]

# What writes no past and no line.
NO_TEXTS = ["", " ", "\n", ":", "=", "an", "An:", "an :", " an:", "an: ", "an:\n", "\nan:", "an:\n\nbo:", "an:  *", "an:*", "an: **",
            "an:\t*", "an:\r\nbo:", "an::", "an: :", "abcdefghi:", "an:\nan:", "bo:\nan:", "an: keep", "an: hear 0", "an: 0",
            "an: 0>an", "an: 0>bo", "an: 0>\nbo:", "an: >bo\nbo:", "an: 0 >bo\nbo:", "an: 0> bo\nbo:", "an: 0>>bo\nbo:",
            "an: 0>bo>bo\nbo:", "an: 0>Bo\nbo:", "an: 0>bo 0>bo\nbo:", "an: 0>bo\nbo: 0 0", "an: 0>bo\nbo: 0>an", "an: 0>bo\nbo: 1",
            "an: 0>bo\nbo:\ncy: 0", "an: 0 1>bo\nbo: 1 0>an", "an: 00>bo\nbo:", "an: 01>bo\nbo: 1", "an: 1>bo\nbo: 01",
            "an: +1>bo\nbo: 1", "an: -1>bo\nbo: -1", "an: 1.0>bo\nbo:", "an: 1_0>bo\nbo: 10", "an: 1e2>bo\nbo:", "an: 0x1>bo\nbo:",
            "an: 1000000000>bo\nbo:", "an: 0000000000>bo\nbo:", "an: " + "9" * 5000 + ">bo\nbo:", "an: \u0661>bo\nbo: \u0661",
            "an: \u00b2>bo\nbo:", "\u00e4n:", "a\u00f1:", "an:\u00a0*", "an: \u2217", "an: * \nbo:", "an: *\n bo:", "an:\u2028bo:",
            "an: *\n\n", "an: *,*", "an: tell 0 bo\nbo:", "an: None", "an:\nbo: *\nan: *", "{'an': []}",
            "an=", "=0", "an=0 ", " an=0", "an=0  bo=0", "an=0\nbo=0", "an=0,bo=0", "an =0", "an= 0", "an==0", "an=0=0", "An=0",
            "an=00", "an=01", "an=+1", "an=-1", "an=1.0", "an=1e2", "an=1_0", "an=0x1", "an=1000000000", "an=0000000000",
            "an=" + "9" * 5000, "an=\u0661", "an=\u00b2", "bo=0 an=0", "an=0 an=0", "an=0 an=1", "an=0 bo=0 an=0", "abcdefghi=0",
            "\u00e4n=0", "an=0\n", "\nan=0", "an=0\tbo=0", "an:0", "an=x", "an=None", "0=an", "an 0", "an=0 bo", "an=0 bo=", "an=0 =1"]


def no_texts():
    """Things of any kind that write neither a past nor a line."""
    return things() + NO_TEXTS + [b"an:", b"an=0", ["an:"], ["an=0"], ("an:",), {"an:"}, {"an:": 0}, bytearray(b"an:"), 0, None, True]


class PastTest(unittest.TestCase):
    def test_writings(self):
        for past, text in WRITTEN:
            for filled in [past] + refilled(past):
                with self.subTest(text):
                    self.assertEqual(show_past(filled), text)
            self.assertEqual(read_past(text), past)

    def test_each_is_written_and_read_back(self):
        many = [big_past(8, 40, 400), big_past(9, 3, 400), staircase(13, 10)[0], {name: [] for name in NAMES}]
        texts = {}
        for past in small_pasts() + wary_pasts() + many:
            text = show_past(past)
            self.assertEqual(read_past(text), past)
            self.assertEqual(show_past(read_past(text)), text)
            self.assertEqual([show_past(filled) for filled in refilled(past)], [text, text])
            self.assertEqual(texts.setdefault(text, past), past)

    def test_no_two_pasts_have_one_writing(self):
        pasts = [past for past in small_pasts() if is_past(past)]
        unlike = [past for at, past in enumerate(pasts) if past not in pasts[:at]]
        self.assertEqual(len({show_past(past) for past in unlike}), len(unlike))

    def test_forty_hands_and_forty_one(self):
        text = "\n".join(name + ":" for name in sorted(NAMES))
        self.assertEqual(read_past(text), {name: [] for name in NAMES})
        self.assertIs(raised(read_past, text + "\nzz:"), NoText)

    def test_kinds(self):
        self.assertIs(type(show_past(PAST)), str)
        past = read_past(show_past(PAST))
        self.assertIs(type(past), dict)
        for row in past.values():
            self.assertIs(type(row), list)
            for deed in row:
                self.assertIs(type(deed), tuple)
                self.assertTrue(all(type(thing) in (int, str) for thing in deed))

    def test_what_is_no_past(self):
        for thing in things() + BROKEN + ["an:", "an: *"]:
            with self.subTest(ascii(thing)):
                self.assertIs(raised(show_past, thing), NoPast)

    def test_what_writes_no_past(self):
        for thing in no_texts() + ["an=0", "an=0 bo=1", "an: an=0"]:
            with self.subTest(ascii(thing)):
                self.assertIs(raised(read_past, thing), NoText)

    def test_texts_that_lack_little(self):
        chance = random.Random(22)
        signs = " *:>=\n0123459abeno"
        refused = 0
        for _, text in WRITTEN * 150:
            at = chance.randrange(len(text) + 1)
            other = text[:at] + chance.choice(signs) + text[at + chance.choice([0, 1]):]
            if raised(read_past, other) is None:
                self.assertEqual(show_past(read_past(other)), other)
            else:
                self.assertIs(raised(read_past, other), NoText)
                refused += 1
        self.assertGreater(refused, 500)

    def test_all_short_texts(self):
        names = ["".join(signs) for many in range(1, 5) for signs in itertools.product("ab", repeat=many)]
        due = [name + ":" for name in names] + [name + ": *" for name in names if len(name) < 3] + ["a:\nb:"]
        for many in range(6):
            for signs in itertools.product("ab: *\n0>=", repeat=many):
                text = "".join(signs)
                if raised(read_past, text) is None:
                    self.assertIn(text, due)
                    due.remove(text)
        self.assertEqual(due, [])


class LineTest(unittest.TestCase):
    def test_writings(self):
        for line, text in LINES:
            for filled in [line] + refilled(line):
                with self.subTest(text):
                    self.assertEqual(show_line(filled), text)
            self.assertEqual(read_line(text), line)

    def test_each_is_written_and_read_back(self):
        for past in small_pasts()[::9]:
            for line in slowly_all_lines(past):
                self.assertEqual(read_line(show_line(line)), line)

    def test_a_line_of_any_past(self):
        line = {name: at * at * 657461 for at, name in enumerate(NAMES)}
        self.assertEqual(read_line(show_line(line)), line)
        self.assertEqual(read_line("an=5 zz=0"), {"an": 5, "zz": 0})

    def test_forty_hands_and_forty_one(self):
        text = " ".join(name + "=7" for name in sorted(NAMES))
        self.assertEqual(read_line(text), {name: 7 for name in NAMES})
        self.assertEqual(show_line({name: 7 for name in NAMES}), text)
        self.assertIs(raised(read_line, text + " zz=7"), NoText)
        self.assertIs(raised(show_line, {name: 7 for name in NAMES + ["zz"]}), NoLine)

    def test_kinds(self):
        self.assertIs(type(show_line({"an": 0})), str)
        line = read_line("an=0 bo=1")
        self.assertIs(type(line), dict)
        self.assertEqual([type(number) for number in line.values()], [int, int])

    def test_what_is_no_line(self):
        bad = [{}, {"An": 0}, {"": 0}, {"an": -1}, {"an": 10 ** 9}, {"an": True}, {"an": False}, {"an": 1.0}, {"an": "0"}, {"an": [0]},
               {"an": (0,)}, {"an": None}, {"an": 0, 0: 0}, {0: "an"}, {("an",): 0}, {"an": 0, None: 0}, {b"an": 0}, {"abcdefghi": 0},
               {"an": 0, "bo": NoEqual()}, {"an": 0, "bo": []}, {"a b": 0}, ["an", 0], ("an", 0), [("an", 0)], (("an", 0),), "an=0",
               {"an"}, {"an": {"an": 0}}, {"\u00e4n": 0}, {"an": 10 ** 5000}]
        for thing in [thing for thing in things() if ascii(thing) != "{'an': 0}"] + bad:
            with self.subTest(str(type(thing))):
                self.assertIs(raised(show_line, thing), NoLine)

    def test_what_writes_no_line(self):
        for thing in no_texts() + [text for _, text in WRITTEN]:
            with self.subTest(ascii(thing)):
                self.assertIs(raised(read_line, thing), NoText)

    def test_texts_that_lack_little(self):
        chance = random.Random(23)
        refused = 0
        for _, text in LINES * 400:
            at = chance.randrange(len(text) + 1)
            other = text[:at] + chance.choice(" :=\n0123459abeno") + text[at + chance.choice([0, 1]):]
            if raised(read_line, other) is None:
                self.assertEqual(show_line(read_line(other)), other)
            else:
                self.assertIs(raised(read_line, other), NoText)
                refused += 1
        self.assertGreater(refused, 500)

    def test_all_short_texts(self):
        due = [f"{name}={number}" for name in ("a", "b", "aa", "ab", "ba", "bb") for number in (0, 1, 10, 11)]
        due += [f"{name}={number}" for name in "ab" for number in (100, 101, 110, 111)]
        due += [a + b + c + "=" + n for a in "ab" for b in "ab" for c in "ab" for n in "01"]
        for many in range(6):
            for signs in itertools.product("ab= *\n01>", repeat=many):
                text = "".join(signs)
                if raised(read_line, text) is None:
                    self.assertIn(text, due)
                    due.remove(text)
        self.assertEqual(due, [])
        self.assertEqual(read_line("a=0 b=1"), {"a": 0, "b": 1})


class OnesOwnTest(unittest.TestCase):
    def test_what_is_handed_in_stays(self):
        row = [KEEP]
        for past in [PAST, {"an": row, "bo": row}]:
            ahead = copy.deepcopy([past, list(past)])
            show_past(past)
            self.assertEqual([past, list(past)], ahead)
        line = {"bo": 1, "an": 0}
        show_line(line)
        self.assertEqual(list(line.items()), [("bo", 1), ("an", 0)])

    def test_what_is_told_is_new(self):
        text = show_past(PAST)
        past = read_past(text)
        parts = dicts_and_lists(past)
        self.assertEqual(len({id(part) for part in parts}), len(parts))
        for part in parts:
            part.clear()
        self.assertEqual(read_past(text), PAST)
        line = read_line("an=0 bo=1")
        line.clear()
        self.assertEqual(read_line("an=0 bo=1"), {"an": 0, "bo": 1})

    def test_a_refusal_tells_why(self):
        for call, args in ((show_past, (None,)), (show_line, (None,)), (read_past, ("",)), (read_past, (None,)), (read_line, ("",)),
                           (read_line, ("an=0 an=0",))):
            with self.assertRaises(ValueError) as caught:
                call(*args)
            self.assertTrue(str(caught.exception))


if __name__ == "__main__":
    unittest.main()
