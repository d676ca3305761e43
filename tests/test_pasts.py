"""What is told of a past: orders, presents, parts, letters that lie [5, 6], and new lists and dicts [2]."""

import copy
import unittest

from fallingback.errors import NoLetter, NoPast
from fallingback.pasts import heard_in, letters_lying, order_of, presents, told_in
from support import BROKEN, PAST, big_past, histories, raised, refilled, staircase, things


def done_in_order(past, order):
    """Whether the order has all deeds of the past, each hearing behind its telling."""
    at = {hand: 0 for hand in past}
    told = set()
    for hand in order:
        if at[hand] == len(past[hand]):
            return False
        deed = past[hand][at[hand]]
        at[hand] += 1
        if deed[0] == "tell":
            told.add(deed[1])
        if deed[0] == "hear" and deed[1] not in told:
            return False
    return all(at[hand] == len(past[hand]) for hand in past)


def slowly_parts(past, word):
    """In which part each letter is told, or heard: by counting the keepings ahead of it."""
    return {deed[1]: (hand, row[:at].count(("keep",)))
            for hand, row in past.items() for at, deed in enumerate(row) if deed[0] == word}


class OrderTest(unittest.TestCase):
    def check(self, past):
        order = order_of(past)
        self.assertIs(type(order), list)
        self.assertTrue(done_in_order(past, order), ascii((past, order)))
        for filled in [past] + refilled(past):
            self.assertEqual(order_of(filled), order)

    def test_where_only_one_order_is(self):
        self.assertEqual(order_of({"an": []}), [])
        self.assertEqual(order_of({"an": [], "bo": []}), [])
        self.assertEqual(order_of({"an": [("keep",), ("keep",)], "bo": []}), ["an", "an"])
        self.assertEqual(order_of({"an": [("hear", 0)], "bo": [("tell", 0, "an")]}), ["bo", "an"])
        self.assertEqual(order_of({"an": [("hear", 0), ("tell", 1, "bo")], "bo": [("tell", 0, "an"), ("hear", 1)]}),
                         ["bo", "an", "an", "bo"])

    def test_ordinary_pasts(self):
        self.check(PAST)
        self.check({"an": [("keep",)], "bo": [("keep",), ("keep",)], "cy": []})

    def test_all_small_pasts(self):
        for past in histories(["an", "bo"], 5) + histories(["an", "bo", "cy"], 3):
            self.check(past)

    def test_many_deeds(self):
        for past in [big_past(1, 40, 400), big_past(2, 5, 400), staircase(40, 3)[0], staircase(2, 66)[0]]:
            self.check(past)


class PresentsTest(unittest.TestCase):
    def test_presents(self):
        self.assertEqual(presents(PAST), {"an": 3, "bo": 2, "cy": 1, "di": 1})
        self.assertEqual(presents({"an": []}), {"an": 1})
        self.assertEqual(presents({"an": [("keep",)]}), {"an": 2})
        self.assertEqual(presents({"an": [("tell", 0, "bo")], "bo": [("hear", 0), ("keep",)]}), {"an": 1, "bo": 2})
        self.assertIs(type(presents(PAST)), dict)

    def test_many_deeds(self):
        past = big_past(7, 40, 400)
        self.assertEqual(presents(past), {hand: past[hand].count(("keep",)) + 1 for hand in past})


class LettersTest(unittest.TestCase):
    def test_told_in(self):
        for letter, part in {0: ("an", 0), 3: ("bo", 0), 4: ("cy", 0), 5: ("an", 1), 7: ("an", 2), 12: ("cy", 0)}.items():
            with self.subTest(letter):
                self.assertEqual(told_in(PAST, letter), part)
                self.assertIs(type(told_in(PAST, letter)), tuple)

    def test_heard_in(self):
        for letter, part in {0: ("bo", 0), 3: ("cy", 0), 4: ("an", 1), 5: ("bo", 1)}.items():
            with self.subTest(letter):
                self.assertEqual(heard_in(PAST, letter), part)
                self.assertIs(type(heard_in(PAST, letter)), tuple)

    def test_a_letter_that_lies_was_heard_in_none(self):
        self.assertIsNone(heard_in(PAST, 7))
        self.assertIsNone(heard_in(PAST, 12))

    def test_a_deed_beside_a_keeping(self):
        past = {"an": [("keep",), ("tell", 0, "bo"), ("keep",), ("tell", 1, "bo")], "bo": [("hear", 1), ("keep",), ("hear", 0)]}
        self.assertEqual([told_in(past, letter) for letter in (0, 1)], [("an", 1), ("an", 2)])
        self.assertEqual([heard_in(past, letter) for letter in (0, 1)], [("bo", 1), ("bo", 0)])

    def test_hands_called_as_the_deeds_are(self):
        past = {"keep": [("tell", 0, "hear"), ("hear", 1)], "hear": [("hear", 0), ("tell", 1, "keep"), ("tell", 2, "tell")],
                "tell": [("tell", 3, "keep"), ("keep",), ("tell", 4, "keep")]}
        self.assertEqual(presents(past), {"keep": 1, "hear": 1, "tell": 2})
        self.assertEqual([told_in(past, letter) for letter in range(5)],
                         [("keep", 0), ("hear", 0), ("hear", 0), ("tell", 0), ("tell", 1)])
        self.assertEqual([heard_in(past, letter) for letter in range(5)], [("hear", 0), ("keep", 0), None, None, None])
        past = {"an": [("tell", 0, "keep"), ("tell", 1, "keep"), ("hear", 2)], "keep": [("hear", 1), ("tell", 2, "an")]}
        self.assertEqual(presents(past), {"an": 1, "keep": 1})
        self.assertEqual([told_in(past, 1), heard_in(past, 2), letters_lying(past)], [("an", 0), ("an", 0), [0]])

    def test_letters_lying(self):
        self.assertEqual(letters_lying(PAST), [7, 12])
        self.assertEqual(letters_lying({"an": []}), [])
        self.assertEqual(letters_lying({"an": [("tell", 0, "bo")], "bo": [("hear", 0)]}), [])
        many = {"an": [("tell", letter, "bo") for letter in (30, 4, 200, 1, 0)], "bo": [("tell", 15, "an"), ("hear", 4)]}
        self.assertEqual(letters_lying(many), [0, 1, 15, 30, 200])
        self.assertIs(type(letters_lying(PAST)), list)

    def test_the_order_in_which_the_past_was_filled(self):
        for past in [PAST, big_past(11, 20, 300)]:
            for filled in refilled(past):
                self.assertEqual(presents(filled), presents(past))
                self.assertEqual(letters_lying(filled), letters_lying(past))

    def test_all_small_pasts(self):
        for past in histories(["an", "bo"], 4) + histories(["an", "bo", "cy"], 3) + [big_past(5, 40, 400)]:
            told, heard = slowly_parts(past, "tell"), slowly_parts(past, "hear")
            for letter in told:
                self.assertEqual(told_in(past, letter), told[letter])
                self.assertEqual(heard_in(past, letter), heard.get(letter))
            self.assertEqual(letters_lying(past), sorted(set(told) - set(heard)))

    def test_what_is_no_letter(self):
        past = {"an": [("tell", 0, "bo"), ("tell", 1, "bo")], "bo": [("hear", 0), ("hear", 1)]}
        for call in (told_in, heard_in):
            for thing in things() + ["an", 2, -1, "1", (0,), [0], b"0", ("hear", 0), ("tell", 0, "bo"), past]:
                with self.subTest(ascii(thing)):
                    self.assertIs(raised(call, past, thing), NoLetter)
                    self.assertIs(raised(call, {"an": []}, thing), NoLetter)


class RefusalsTest(unittest.TestCase):
    def test_what_is_no_past(self):
        for past in things() + BROKEN:
            for call in (order_of, presents, letters_lying):
                with self.subTest(ascii(past)):
                    self.assertIs(raised(call, past), NoPast)
            for call in (told_in, heard_in):
                for letter in (0, 1, -1, None, []):
                    with self.subTest(ascii(past), letter=letter):
                        self.assertIs(raised(call, past, letter), NoPast)

    def test_a_refusal_tells_why(self):
        for call, args in ((presents, (None,)), (told_in, (PAST, 1))):
            with self.assertRaises(ValueError) as caught:
                call(*args)
            self.assertTrue(str(caught.exception))


class OnesOwnTest(unittest.TestCase):
    def test_what_is_handed_in_stays(self):
        for past in [PAST, big_past(4, 9, 90), {"an": []}]:
            ahead, hands = copy.deepcopy(past), list(past)
            rows = {hand: past[hand] for hand in past}
            order_of(past), presents(past), letters_lying(past)
            for letter in slowly_parts(past, "tell"):
                told_in(past, letter), heard_in(past, letter)
            raised(told_in, past, -1)
            self.assertEqual(past, ahead)
            self.assertEqual(list(past), hands)
            self.assertTrue(all(past[hand] is rows[hand] for hand in past))

    def test_what_is_told_is_the_askers_own(self):
        past = copy.deepcopy(PAST)
        for call in (order_of, presents, letters_lying):
            told = call(past)
            due = copy.deepcopy(told)
            told.clear()
            self.assertEqual(call(past), due)
            self.assertEqual(past, PAST)
            self.assertIsNot(call(past), call(past))
        empty = order_of({"an": []})
        empty.append("an")
        self.assertEqual(order_of({"an": []}), [])
        none = letters_lying({"an": []})
        none.append(3)
        self.assertEqual(letters_lying({"an": []}), [])

    def test_what_is_done_to_the_past_changes_nothing_told(self):
        past = copy.deepcopy(PAST)
        told = [order_of(past), presents(past), letters_lying(past), told_in(past, 4), heard_in(past, 4)]
        due = copy.deepcopy(told)
        past["an"].clear()
        past["zz"] = []
        self.assertEqual(told, due)
        past.clear()
        past.update(copy.deepcopy(PAST))
        self.assertEqual([order_of(past), presents(past), letters_lying(past), told_in(past, 4), heard_in(past, 4)], due)

    def test_the_past_is_asked_anew(self):
        past = {"an": [("tell", 0, "bo")], "bo": []}
        self.assertEqual((order_of(past), presents(past), letters_lying(past)), (["an"], {"an": 1, "bo": 1}, [0]))
        past["bo"].append(("keep",))
        past["bo"].append(("hear", 0))
        self.assertEqual((order_of(past), presents(past), letters_lying(past)),
                         (["an", "bo", "bo"], {"an": 1, "bo": 2}, []))
        self.assertEqual(heard_in(past, 0), ("bo", 1))
        past["bo"].append(("hear", 0))
        self.assertIs(raised(presents, past), NoPast)


if __name__ == "__main__":
    unittest.main()
