"""What is a name and what is a past [5]."""

import collections
import copy
import itertools
import unittest

from fallingback.pasts import is_name, is_past
from support import PAST, big_past, histories, refilled, staircase, things


def name_at(number):
    """One of 676 names."""
    return "abcdefghijklmnopqrstuvwxyz"[number // 26] + "abcdefghijklmnopqrstuvwxyz"[number % 26]


def slowly_a_past(past):
    """Whether rows of deeds of good form are a past: by doing the deeds in every order."""
    tells = [(deed[1], hand, deed[2]) for hand in past for deed in past[hand] if deed[0] == "tell"]
    hears = [(deed[1], hand) for hand in past for deed in past[hand] if deed[0] == "hear"]
    hearer = {letter: to for letter, _, to in tells}
    if len(hearer) < len(tells) or len(dict(hears)) < len(hears):
        return False
    if any(one == to for _, one, to in tells) or any(hearer.get(letter) != hand for letter, hand in hears):
        return False
    hands = list(past)
    todo = [tuple(0 for _ in hands)]
    while todo:
        done = todo.pop()
        if all(done[at] == len(past[hand]) for at, hand in enumerate(hands)):
            return True
        told = {deed[1] for at, hand in enumerate(hands) for deed in past[hand][:done[at]] if deed[0] == "tell"}
        for at, hand in enumerate(hands):
            rest = past[hand][done[at]:]
            if rest and (rest[0][0] != "hear" or rest[0][1] in told):
                todo.append(done[:at] + (done[at] + 1,) + done[at + 1:])
    return False


class IsNameTest(unittest.TestCase):
    def test_names(self):
        for name in ("a", "z", "an", "keep", "abcdefgh", "zzzzzzzz"):
            with self.subTest(name):
                self.assertIs(is_name(name), True)

    def test_none_and_nine_letters(self):
        self.assertIs(is_name(""), False)
        self.assertIs(is_name("abcdefghi"), False)
        self.assertIs(is_name("a" * 4000), False)

    def test_other_signs(self):
        for text in ("A", "aN", "Na", "a1", "1", "a b", " a", "a ", "a\n", "\n", "a_b", "a-b", "`", "{", "a{", "`a", "\u00e4",
                     "\u00df", "\u0430", "\u00aa", "\uff41", "\ud800"):
            with self.subTest(ascii(text)):
                self.assertIs(is_name(text), False)

    def test_anything(self):
        for thing in things():
            with self.subTest(ascii(thing)):
                self.assertIs(is_name(thing), False)
        for thing in (["a"], ("a",), b"a", {"a": "a"}, {"a"}, ord("a")):
            with self.subTest(ascii(thing)):
                self.assertIs(is_name(thing), False)


class IsPastTest(unittest.TestCase):
    def check(self, past, due):
        for filled in [past] + refilled(past):
            with self.subTest(ascii(filled)):
                self.assertIs(is_past(filled), due)

    def test_pasts(self):
        self.check(PAST, True)
        self.check({"an": []}, True)
        self.check({"an": [("keep",), ("keep",)]}, True)
        self.check({"an": [("tell", 0, "bo")], "bo": []}, True)
        self.check({"an": [("tell", 999999999, "bo")], "bo": [("hear", 999999999)]}, True)
        self.check({"bo": [("hear", 8)], "an": [("keep",), ("tell", 8, "bo")]}, True)

    def test_letters_may_be_heard_in_any_order(self):
        self.check({"an": [("tell", 0, "bo"), ("tell", 1, "bo")], "bo": [("hear", 1), ("hear", 0)]}, True)

    def test_one_row_may_stand_for_several_hands(self):
        row = [("keep",)]
        self.check({"an": row, "bo": row}, True)

    def test_the_number_of_hands(self):
        for hands, due in ((0, False), (1, True), (2, True), (40, True), (41, False), (500, False)):
            with self.subTest(hands):
                self.assertIs(is_past({name_at(at): [] for at in range(hands)}), due)

    def test_hands_that_are_no_names(self):
        for hand in ("", "An", "abcdefghi", "a b", "an\n", 1, None, True, ("an",), b"an", 1.5, frozenset()):
            with self.subTest(ascii(hand)):
                self.assertIs(is_past({hand: []}), False)
                self.assertIs(is_past({"an": [], hand: []}), False)
        self.assertIs(is_past({"abcdefgh": [], "a": []}), True)

    def test_rows_that_are_no_lists(self):
        for row in [(), "", None, {}, set(), 0, (("keep",),), "keep", {("keep",): True}]:
            with self.subTest(ascii(row)):
                self.assertIs(is_past({"an": row}), False)
                self.assertIs(is_past({"an": [("keep",)], "bo": row}), False)

    def test_deeds_of_other_forms(self):
        for deed in [
            ["keep"], ["tell", 0, "bo"], ["hear", 0], "keep", ("keep"), (), ("keep", None), ("keep", 0), ("keep", "bo"),
            ("Keep",), ("kept",), ("keep ",), ("",), ("tell",), ("hear",), ("tell", 0), ("tell", "bo"),
            ("tell", 0, "bo", 0), ("tell", "bo", 0), ("tell", (0, "bo")), ("tell", 0, ("bo",)), ("Tell", 0, "bo"),
            ("say", 0, "bo"), ("say", 0), (0, "tell", "bo"), (("keep",),), (None,), (b"keep",), (0,), ([],), ({},),
            ("tell", 0, None), ("tell", 0, 0), ("tell", 0, []), ("tell", 0, b"bo"), ("tell", 0, ["bo"]), ("tell", 0, {}),
        ]:
            with self.subTest(ascii(deed)):
                self.assertIs(is_past({"an": [deed], "bo": []}), False)
                self.assertIs(is_past({"bo": [], "an": [("keep",), deed, ("keep",)]}), False)

    def test_hearings_of_other_forms(self):
        told = {"an": [("tell", 0, "bo")], "bo": [("hear", 0)]}
        self.assertIs(is_past(told), True)
        for deed in [("hear",), ("hear", 0, 0), ("hear", 0, "an"), ("hear", "0"), ("hear", (0,)), ("heard", 0), ["hear", 0],
                     ("hear", [0]), ("hear", None), ("hear", "an"), (0, "hear")]:
            with self.subTest(ascii(deed)):
                self.assertIs(is_past({"an": [("tell", 0, "bo")], "bo": [deed]}), False)

    def test_letters_that_are_none(self):
        for letter in [True, False, -1, -10 ** 9, 0.0, 1.0, 1.5, "0", None, [], (), {}, b"0", 0j]:
            with self.subTest(ascii(letter)):
                self.assertIs(is_past({"an": [("tell", letter, "bo")], "bo": []}), False)
                self.assertIs(is_past({"an": [("tell", letter, "bo")], "bo": [("hear", letter)]}), False)
        for told in (0, 1):
            for letter in (False, True, 0.0, 1.0):
                with self.subTest(told=told, heard=letter):
                    self.assertIs(is_past({"an": [("tell", told, "bo")], "bo": [("hear", letter)]}), False)

    def test_a_letter_told_twice(self):
        self.check({"an": [("tell", 3, "bo"), ("tell", 3, "bo")], "bo": []}, False)
        self.check({"an": [("tell", 3, "bo"), ("keep",), ("tell", 3, "cy")], "bo": [], "cy": []}, False)
        self.check({"an": [("tell", 3, "bo")], "bo": [("tell", 3, "an")]}, False)
        self.check({"an": [("tell", 3, "bo")], "bo": [("hear", 3), ("tell", 3, "an")]}, False)
        self.check({"an": [("tell", 3, "bo"), ("tell", 3, "bo")], "bo": [("hear", 3), ("hear", 3)]}, False)

    def test_a_letter_heard_twice(self):
        self.check({"an": [("tell", 3, "bo")], "bo": [("hear", 3), ("hear", 3)]}, False)
        self.check({"an": [("tell", 3, "bo")], "bo": [("hear", 3), ("keep",), ("hear", 3)]}, False)

    def test_a_letter_heard_and_not_told(self):
        self.check({"an": [("hear", 0)]}, False)
        self.check({"an": [("tell", 1, "bo")], "bo": [("hear", 0)]}, False)

    def test_a_letter_heard_by_another_hand(self):
        self.check({"an": [("tell", 0, "bo")], "bo": [], "cy": [("hear", 0)]}, False)
        self.check({"an": [("tell", 0, "bo"), ("hear", 0)], "bo": []}, False)
        self.check({"an": [("tell", 0, "bo")], "bo": [("hear", 0)], "cy": [("hear", 0)]}, False)
        self.check({"an": [("tell", 0, "bo"), ("tell", 1, "cy")], "bo": [("hear", 1)], "cy": [("hear", 0)]}, False)

    def test_a_letter_told_to_the_hand_itself(self):
        self.check({"an": [("tell", 0, "an")]}, False)
        self.check({"an": [("tell", 0, "an"), ("hear", 0)], "bo": []}, False)
        self.check({"an": [("hear", 0), ("tell", 0, "an")], "bo": []}, False)

    def test_a_letter_told_to_none_of_the_past(self):
        self.check({"an": [("tell", 0, "bo")]}, False)
        self.check({"an": [("tell", 0, "cy")], "bo": []}, False)
        self.check({"an": [("tell", 0, "")], "bo": []}, False)

    def test_hearings_round_about(self):
        self.check({"an": [("hear", 1), ("tell", 0, "bo")], "bo": [("hear", 0), ("tell", 1, "an")]}, False)
        self.check({"an": [("tell", 0, "bo"), ("hear", 1)], "bo": [("hear", 0), ("tell", 1, "an")]}, True)
        self.check({"an": [("tell", 0, "bo"), ("hear", 1)], "bo": [("tell", 1, "an"), ("hear", 0)]}, True)
        for hands in (2, 3, 40):
            names = [name_at(at) for at in range(hands)]
            rows = {names[at]: [("keep",), ("hear", at), ("keep",), ("tell", (at + 1) % hands, names[(at + 1) % hands])]
                    for at in range(hands)}
            with self.subTest(hands):
                self.assertIs(is_past(rows), False)
                rows[names[-1]] = rows[names[-1]][2:] + rows[names[-1]][:2]
                self.check(rows, True)

    def test_hearings_round_about_behind_deeds_that_can_come(self):
        self.check({"an": [("tell", 5, "bo"), ("hear", 1), ("tell", 0, "bo")],
                    "bo": [("hear", 5), ("hear", 0), ("tell", 1, "an")], "cy": [("keep",)]}, False)

    def test_many_deeds(self):
        for seed in range(5):
            past = big_past(seed, 40, 400)
            with self.subTest(seed):
                self.assertIs(is_past(past), True)
                heard = [(hand, deed) for hand in past for deed in past[hand] if deed[0] == "hear"]
                for hand, deed in heard[::9]:
                    self.assertIs(is_past({**past, hand: past[hand] + [deed]}), False)
        past, one, other, _ = staircase(2, 66)
        self.assertIs(is_past(past), True)
        past[other[0]].append(("tell", 9999, one[0]))
        self.assertIs(is_past(past), True)
        past[one[0]].insert(0, ("hear", 9999))
        self.assertIs(is_past(past), False)
        self.assertIs(is_past({"an": [("keep",)] * 5000, "bo": []}), True)

    def test_all_small_rows(self):
        deeds = [("keep",), ("tell", 0, "bo"), ("tell", 1, "bo"), ("tell", 1, "an"), ("hear", 0), ("hear", 1)]
        rows = [list(row) for most in range(3) for row in itertools.product(deeds, repeat=most)]
        counted = collections.Counter()
        for one, other in itertools.product(rows, rows):
            past = {"an": one, "bo": other}
            due = slowly_a_past(past)
            counted[due] += 1
            if is_past(past) is not due:
                self.fail(ascii(past))
        self.assertTrue(counted[True] > 50 and counted[False] > 50)

    def test_what_was_done_is_a_past(self):
        for past in histories(["an", "bo"], 5) + histories(["an", "bo", "cy"], 3):
            if is_past(past) is not True:
                self.fail(ascii(past))

    def test_anything(self):
        for thing in things():
            with self.subTest(ascii(thing)):
                self.assertIs(is_past(thing), False)
                self.assertIs(is_past({"an": thing}), isinstance(thing, list) and not thing)
                self.assertIs(is_past({"an": [thing], "bo": []}), False)
                for deed in [(thing,), ("keep", thing), ("hear", thing), ("tell", 0, thing)]:
                    self.assertIs(is_past({"an": [deed], "bo": []}), False)
                if type(thing) is not int or thing < 0:
                    self.assertIs(is_past({"an": [("tell", thing, "bo")], "bo": []}), False)

    def test_nothing_is_changed(self):
        for thing in [PAST, {"an": [("hear", 0)]}, {"an": [("tell", 0, "bo")] * 2, "bo": []}, big_past(3, 9, 90)]:
            ahead = copy.deepcopy(thing)
            hands = list(thing)
            is_past(thing)
            self.assertEqual(thing, ahead)
            self.assertEqual(list(thing), hands)


if __name__ == "__main__":
    unittest.main()
