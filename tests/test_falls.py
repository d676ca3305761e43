"""Falls: the line, what is lost, the letters [14], and why [15]."""

import copy
import itertools
import unittest

from fallingback.errors import NoHand, NoHands, NoPast
from fallingback.falls import deeds_lost, fall_line, is_why, letters_after, why_back
from support import (BROKEN, PAST, NoEqual, big_past, dicts_and_lists, last_points, raised, refilled, slowly_all_lines,
                     slowly_left, slowly_row_left, small_pasts, some_hands, staircase, stepwise_left, things, whereabouts)

# an's last point stands in no line: a letter that bo heard behind it comes back to an ahead of it.
ROUND = {"an": [("tell", 2, "cy"), ("hear", 1), ("keep",), ("tell", 0, "bo")], "bo": [("tell", 1, "an"), ("hear", 0)],
         "cy": [("keep",), ("hear", 2), ("keep",)]}

# No list of one or more unlike hands of PAST.
NO_HANDS = [[], ["an", "an"], ["an", "bo", "an"], ["ed"], ["an", "ed"], [""], ["An"], ["an", None], ["an", 0], ["an", True],
            ["an", ["bo"]], ["an", ("bo",)], [("an",)], [["an"]], [b"an"], ("an",), ("an", "bo"), "an", {"an"}, {"an": 0},
            {"an": []}, PAST, [PAST], ["an", NoEqual()], [NoEqual(), NoEqual()], ["an"] * 41, ["an"] * 4000,
            frozenset({"an"}), 0, None]


def no_hands():
    """Things of any kind that are no hands of PAST."""
    return [thing for thing in things() if ascii(thing) != "['an']"] + NO_HANDS


def slowly_fewest(past, fallen, hand):
    """Of how many letters a why is at the fewest, None where the hand loses none: the words of [15]."""
    line, ends, (told, heard) = stepwise_left(past, fallen), last_points(past), whereabouts(past)
    if line[hand] == ends[hand]:
        return None
    if hand in fallen and line[hand] == ends[hand] - 1:
        return 0
    reached = {letter for letter in heard if told[letter][0] in fallen and told[letter][1] == ends[told[letter][0]] - 1}
    for many in range(1, len(heard) + 1):
        if any(heard[letter] == (hand, line[hand]) for letter in reached):
            return many
        reached = {after for after in heard for ahead in reached
                   if told[after][0] == heard[ahead][0] and told[after][1] >= heard[ahead][1]}
    raise AssertionError((past, fallen, hand))


def slowly_a_why(past, fallen, hand, letters):
    """Whether the list is why a hand goes back that doesn't only fall: the words of [15], one by one."""
    line, ends, (told, heard) = stepwise_left(past, fallen), last_points(past), whereabouts(past)
    if not letters or any(letter not in heard for letter in letters):
        return False
    teller, part = told[letters[0]]
    if teller not in fallen or part != ends[teller] - 1 or heard[letters[-1]] != (hand, line[hand]):
        return False
    return all(told[after][0] == heard[ahead][0] and told[after][1] >= heard[ahead][1]
               for ahead, after in zip(letters, letters[1:]))


class FallTest(unittest.TestCase):
    def check(self, past, fallen, line, lost, letters):
        for hands in itertools.permutations(fallen):
            for filled in [past] + refilled(past):
                with self.subTest(hands):
                    self.assertEqual(fall_line(filled, list(hands)), line)
                    self.assertEqual(deeds_lost(filled, list(hands)), lost)
                    self.assertEqual(letters_after(filled, list(hands)), letters)

    def test_one_hand(self):
        self.check(PAST, ["an"], {"an": 2, "bo": 2, "cy": 1, "di": 1}, {"an": 1, "bo": 0, "cy": 0, "di": 0}, ([7], []))
        self.check(PAST, ["bo"], {"an": 3, "bo": 1, "cy": 1, "di": 1}, {"an": 0, "bo": 1, "cy": 0, "di": 0}, ([], [5]))
        self.check(PAST, ["cy"], {"an": 1, "bo": 1, "cy": 0, "di": 1}, {"an": 4, "bo": 1, "cy": 3, "di": 0},
                   ([4, 5, 7, 12], [3]))
        self.check(PAST, ["di"], {"an": 3, "bo": 2, "cy": 1, "di": 0}, {"an": 0, "bo": 0, "cy": 0, "di": 0}, ([], []))

    def test_several_hands(self):
        self.check(PAST, ["an", "bo"], {"an": 2, "bo": 1, "cy": 1, "di": 1}, {"an": 1, "bo": 1, "cy": 0, "di": 0}, ([7], [5]))
        self.check(PAST, ["an", "bo", "cy", "di"], {"an": 1, "bo": 1, "cy": 0, "di": 0},
                   {"an": 4, "bo": 1, "cy": 3, "di": 0}, ([4, 5, 7, 12], [3]))

    def test_a_hand_that_has_done_nothing(self):
        self.check({"an": []}, ["an"], {"an": 0}, {"an": 0}, ([], []))
        self.check({"an": [("keep",)]}, ["an"], {"an": 1}, {"an": 0}, ([], []))
        self.check({"an": [("keep",), ("keep",)], "bo": []}, ["bo", "an"], {"an": 2, "bo": 0}, {"an": 0, "bo": 0}, ([], []))

    def test_keepings_are_counted_as_deeds_lost(self):
        self.check(ROUND, ["an"], {"an": 0, "bo": 0, "cy": 1}, {"an": 4, "bo": 2, "cy": 2}, ([0, 1, 2], []))
        self.check(ROUND, ["bo"], {"an": 0, "bo": 0, "cy": 1}, {"an": 4, "bo": 2, "cy": 2}, ([0, 1, 2], []))
        self.check(ROUND, ["cy"], {"an": 2, "bo": 1, "cy": 2}, {"an": 0, "bo": 0, "cy": 0}, ([], []))

    def test_letters_gone_and_letters_that_lie_again(self):
        past = {"an": [("tell", 9, "bo"), ("tell", 8, "bo"), ("keep",), ("tell", 7, "bo"), ("tell", 6, "cy"), ("tell", 5, "bo")],
                "bo": [("hear", 8), ("keep",), ("hear", 9), ("hear", 7), ("tell", 3, "cy"), ("tell", 2, "an")],
                "cy": [("tell", 1, "bo"), ("hear", 3)]}
        self.check(past, ["an"], {"an": 1, "bo": 1, "cy": 0}, {"an": 3, "bo": 4, "cy": 2}, ([1, 2, 3, 5, 6, 7], [9]))
        self.check(past, ["bo"], {"an": 2, "bo": 1, "cy": 0}, {"an": 0, "bo": 4, "cy": 2}, ([1, 2, 3], [7, 9]))
        self.check(past, ["cy"], {"an": 2, "bo": 2, "cy": 0}, {"an": 0, "bo": 0, "cy": 2}, ([1], [3]))
        past["cy"].insert(1, ("keep",))
        self.check(past, ["bo", "cy"], {"an": 2, "bo": 1, "cy": 1}, {"an": 0, "bo": 4, "cy": 1}, ([2, 3], [7, 9]))

    def test_a_fall_through_many_parts(self):
        past = staircase(2, 66)[0]
        self.assertEqual(fall_line(past, ["ab"]), {"aa": 67, "ab": 66})
        self.assertEqual(fall_line(past, ["aa"]), {"aa": 66, "ab": 67})
        self.assertEqual(past["aa"].pop(), ("keep",))
        self.assertEqual(fall_line(past, ["aa"]), {"aa": 0, "ab": 0})
        self.assertEqual(deeds_lost(past, ["aa"]), {hand: len(past[hand]) for hand in past})

    def test_kinds(self):
        self.assertIs(type(fall_line(PAST, ["an"])), dict)
        self.assertIs(type(deeds_lost(PAST, ["an"])), dict)
        told = letters_after(PAST, ["cy"])
        self.assertEqual([type(told), type(told[0]), type(told[1]), len(told)], [tuple, list, list, 2])

    def check_slowly(self, past, fallen, line):
        self.assertEqual(fall_line(past, fallen), line, ascii((past, fallen)))
        left = {hand: slowly_row_left(past[hand], line[hand]) for hand in past}
        self.assertEqual(deeds_lost(past, fallen), {hand: len(past[hand]) - len(left[hand]) for hand in past})
        told, heard = [{deed[1] for row in past.values() for deed in row if deed[0] == word} for word in ("tell", "hear")]
        still, again = [{deed[1] for row in left.values() for deed in row if deed[0] == word} for word in ("tell", "hear")]
        self.assertEqual(letters_after(past, fallen), (sorted(told - still), sorted((still & heard) - again)),
                         ascii((past, fallen)))

    def test_small_pasts(self):
        for past in small_pasts() + [ROUND]:
            lines = slowly_all_lines(past)
            for fallen in some_hands(past):
                line = slowly_left(past, fallen, lines)
                self.assertEqual(stepwise_left(past, fallen), line)
                self.check_slowly(past, fallen, line)

    def test_many_deeds(self):
        for past in [big_past(8, 40, 400), big_past(9, 3, 400), big_past(10, 7, 400), staircase(40, 3)[0], staircase(2, 66)[0]]:
            hands = list(past)
            for fallen in [[hand] for hand in hands[:9]] + [hands[:2], hands[1:9], hands]:
                self.check_slowly(past, fallen, stepwise_left(past, fallen))


class WhyBackTest(unittest.TestCase):
    def check(self, past, fallen, hand):
        told, many = why_back(past, fallen, hand), slowly_fewest(past, fallen, hand)
        told_of = ascii((past, fallen, hand, told))
        self.assertIs(is_why(past, fallen, hand, told), True, told_of)
        if many is None:
            self.assertIsNone(told, told_of)
            return
        self.assertIs(type(told), list, told_of)
        self.assertEqual(len(told), many, told_of)
        if many:
            self.assertTrue(slowly_a_why(past, fallen, hand, told), told_of)

    def test_none_of_who_loses_no_part(self):
        for fallen, hand in [(["an"], "bo"), (["an"], "cy"), (["an"], "di"), (["bo"], "an"), (["cy"], "di"), (["di"], "an"),
                             (["an", "bo"], "cy")]:
            with self.subTest(fallen=fallen, hand=hand):
                self.assertIsNone(why_back(PAST, fallen, hand))

    def test_the_empty_list_of_who_only_falls(self):
        for fallen, hand in [(["an"], "an"), (["bo"], "bo"), (["cy"], "cy"), (["di"], "di"), (["an", "bo"], "an"),
                             (["bo", "cy"], "bo"), (["an", "cy", "di"], "di")]:
            with self.subTest(fallen=fallen, hand=hand):
                self.assertEqual(why_back(PAST, fallen, hand), [])
        self.assertEqual(why_back({"an": []}, ["an"], "an"), [])

    def test_letters(self):
        self.assertEqual(why_back(PAST, ["cy"], "an"), [4])
        self.assertEqual(why_back(PAST, ["cy"], "bo"), [4, 5])
        self.assertEqual(why_back(ROUND, ["bo"], "an"), [1])
        self.assertEqual(why_back(ROUND, ["bo"], "cy"), [1, 2])
        self.assertEqual(why_back(ROUND, ["an"], "cy"), [0, 1, 2])

    def test_a_fallen_hand_that_goes_back_behind_its_last_kept_point(self):
        self.assertEqual(why_back(PAST, ["an", "cy"], "an"), [4])
        self.assertEqual(why_back(PAST, ["cy", "an"], "an"), [4])
        self.assertEqual(why_back(ROUND, ["an"], "an"), [0, 1])
        self.assertEqual(why_back(ROUND, ["an", "bo"], "an"), [1])
        self.assertEqual(why_back(ROUND, ["an", "bo"], "bo"), [])

    def test_the_fewest_where_several_ways_lead(self):
        past = {"an": [("tell", 0, "bo"), ("tell", 1, "cy")], "bo": [("hear", 0), ("tell", 2, "cy"), ("keep",), ("tell", 9, "di")],
                "cy": [("hear", 2), ("tell", 3, "di"), ("keep",), ("hear", 1), ("tell", 4, "di")],
                "di": [("hear", 4), ("keep",), ("hear", 3), ("hear", 9)]}
        self.assertEqual(why_back(past, ["an"], "cy"), [0, 2])
        self.assertEqual(why_back(past, ["an"], "di"), [1, 4])
        self.assertEqual(why_back(past, ["bo"], "di"), [9])
        self.assertEqual(fall_line(past, ["bo"])["di"], 1)
        self.assertEqual(why_back(past, ["bo", "an"], "di"), [1, 4])
        past["di"][0] = ("keep",)
        self.assertEqual(fall_line(past, ["bo", "an"])["di"], 2)
        self.assertEqual(why_back(past, ["bo", "an"], "di"), [9])

    def test_small_pasts(self):
        counted = 0
        for past in small_pasts() + [ROUND]:
            for fallen in some_hands(past):
                for hand in past:
                    self.check(past, fallen, hand)
                    counted += (slowly_fewest(past, fallen, hand) or 0) > 1
        self.assertGreater(counted, 50)

    def test_many_deeds(self):
        for past in [big_past(8, 40, 400), big_past(9, 3, 400), big_past(10, 7, 400)]:
            hands = sorted(past)
            for fallen in (hands[:1], hands[1:2], hands[2:3], hands[1:9]):
                for hand in hands[::1 + len(hands) // 12]:
                    self.check(past, fallen, hand)

    def test_long_ways(self):
        past = staircase(13, 10)[0]
        hands = sorted(past)
        past[hands[0]].pop()
        told = why_back(past, hands[:1], hands[-1])
        self.assertEqual(fall_line(past, hands[:1]), {hand: 0 for hand in past})
        self.assertEqual(len(told), 129)
        self.check(past, hands[:1], hands[-1])

    def test_the_same_is_told_again(self):
        for past in [PAST, ROUND, big_past(10, 7, 300)]:
            hands = sorted(past)
            for fallen in (hands[:1], hands[1:3]):
                for hand in hands:
                    due = why_back(past, fallen, hand)
                    for filled in [past, copy.deepcopy(past)] + refilled(past):
                        self.assertEqual(why_back(filled, list(fallen), hand), due)


class IsWhyTest(unittest.TestCase):
    def test_none_alone_where_it_is_due(self):
        for thing in things() + [[4], [4, 5], [7], (), "None", [None]]:
            with self.subTest(ascii(thing)):
                self.assertIs(is_why(PAST, ["an"], "bo", thing), thing is None)

    def test_the_empty_list_alone_where_it_is_due(self):
        for thing in things() + [[4], [7], [0, 3, 4], [[]], (), {}, ""]:
            with self.subTest(ascii(thing)):
                due = isinstance(thing, list) and not thing
                self.assertIs(is_why(PAST, ["an"], "an", thing), due)
                self.assertIs(is_why(PAST, ["cy"], "cy", thing), due)

    def test_letters(self):
        for fallen, hand, letters, due in [
            (["cy"], "an", [4], True), (["cy"], "bo", [4, 5], True), (["cy"], "bo", [5], False), (["cy"], "bo", [4], False),
            (["cy"], "bo", [0], False), (["cy"], "an", [], False), (["cy"], "an", None, False), (["cy"], "an", [12], False),
            (["cy"], "an", [4, 5], False), (["cy"], "an", [4, 4], False), (["cy"], "bo", [4, 7], False), (["cy"], "an", (4,), False),
            (["an", "cy"], "an", [4], True), (["an", "cy"], "bo", [4, 5], True), (["an", "cy"], "an", [], False),
        ]:
            with self.subTest(fallen=fallen, hand=hand, letters=letters):
                self.assertIs(is_why(PAST, fallen, hand, letters), due)

    def test_a_first_letter_of_another_part_or_hand(self):
        past = {"an": [("tell", 0, "bo"), ("keep",), ("tell", 1, "bo"), ("keep",), ("tell", 2, "bo")],
                "bo": [("hear", 0), ("hear", 1), ("hear", 2)], "cy": []}
        self.assertIs(is_why(past, ["an"], "bo", [2]), True)
        self.assertIs(is_why(past, ["an"], "bo", [1]), False)
        self.assertIs(is_why(past, ["an"], "bo", [0]), False)
        self.assertIs(is_why(past, ["an", "cy"], "bo", [2]), True)
        self.assertIs(is_why(past, ["cy"], "bo", [2]), False)

    def test_a_last_letter_of_another_part(self):
        past = {"an": [("tell", 0, "bo"), ("tell", 1, "bo")], "bo": [("keep",), ("hear", 1), ("keep",), ("hear", 0)]}
        self.assertEqual(fall_line(past, ["an"]), {"an": 0, "bo": 1})
        self.assertIs(is_why(past, ["an"], "bo", [1]), True)
        self.assertIs(is_why(past, ["an"], "bo", [0]), False)

    def test_more_letters_than_the_fewest(self):
        past = {"an": [("tell", 0, "bo"), ("hear", 1), ("tell", 2, "bo")],
                "bo": [("keep",), ("hear", 0), ("tell", 1, "an"), ("hear", 2)]}
        for letters in ([0], [2], [0, 1, 0], [0, 1, 2], [2, 1, 0], [2, 1, 2], [0, 1] * 150 + [2]):
            self.assertIs(is_why(past, ["an"], "bo", letters), True)
        for letters in ([1], [0, 1], [0, 2], [1, 0], [0, 0], [2, 1]):
            self.assertIs(is_why(past, ["an"], "bo", letters), False)

    def test_things_of_any_kind(self):
        past = {"an": [("tell", 0, "bo"), ("tell", 1, "bo")], "bo": [("hear", 0), ("hear", 1)]}
        self.assertIs(is_why(past, ["an"], "bo", [1]), True)
        for thing in things() + [(0,), (1,), "0", 0, 1, {0: 0}, {1}, range(1), past]:
            with self.subTest(ascii(thing)):
                self.assertIs(is_why(past, ["an"], "bo", thing), False)
                self.assertIs(is_why(past, ["an"], "bo", [thing]), type(thing) is int and thing in (0, 1))
                self.assertIs(is_why(past, ["an"], "bo", [1, thing]), False)

    def test_small_pasts(self):
        counted = 0
        for past in small_pasts()[::9] + [ROUND]:
            told, heard = whereabouts(past)
            lists = [list(row) for many in (1, 2) for row in itertools.product(sorted(told), repeat=many)]
            for fallen in some_hands(past):
                for hand in past:
                    many = slowly_fewest(past, fallen, hand)
                    for letters in lists:
                        due = bool(many) and slowly_a_why(past, fallen, hand, letters)
                        counted += due
                        if is_why(past, fallen, hand, letters) is not due:
                            self.fail(ascii((past, fallen, hand, letters)))
                    self.assertIs(is_why(past, fallen, hand, None), many is None)
                    self.assertIs(is_why(past, fallen, hand, []), many == 0)
        self.assertGreater(counted, 100)


class RefusalsTest(unittest.TestCase):
    def refusal(self, past, hands):
        """The class of the refusal that all calls raise."""
        found = {raised(call, past, hands) for call in (fall_line, deeds_lost, letters_after)}
        for hand in ("an", "ed", None, NoEqual()):
            found.add(raised(why_back, past, hands, hand))
            found.add(raised(is_why, past, hands, hand, None))
            found.add(raised(is_why, past, hands, hand, [NoEqual()]))
        self.assertEqual(len(found), 1)
        return found.pop()

    def test_what_is_no_past(self):
        for past in things() + BROKEN:
            for hands in (["an"], [], None, NoEqual(), ["ed", "ed"]):
                with self.subTest(ascii(past)):
                    self.assertIs(self.refusal(past, hands), NoPast)

    def test_what_are_no_hands(self):
        for hands in no_hands():
            with self.subTest(ascii(hands)):
                self.assertIs(self.refusal(PAST, hands), NoHands)

    def test_what_is_no_hand(self):
        for hand in things() + ["ed", "", ["an"], ("an",), b"an", {"an": 0}, 0, PAST, NoEqual()]:
            with self.subTest(ascii(hand)):
                self.assertIs(raised(why_back, PAST, ["an"], hand), NoHand)
                for thing in (None, [], [4], NoEqual()):
                    self.assertIs(raised(is_why, PAST, ["an"], hand, thing), NoHand)

    def test_all_hands_will_do(self):
        for fallen in some_hands(PAST):
            self.assertIsNone(raised(fall_line, PAST, fallen))
            for hand in PAST:
                self.assertIsNone(raised(why_back, PAST, fallen, hand))

    def test_forty_hands_will_do(self):
        past = big_past(8, 40, 400)
        self.assertEqual(fall_line(past, list(past)), stepwise_left(past, list(past)))

    def test_a_refusal_tells_why(self):
        for call, args in ((fall_line, (PAST, [])), (why_back, (PAST, ["an"], "ed"))):
            with self.assertRaises(ValueError) as caught:
                call(*args)
            self.assertTrue(str(caught.exception))


class OnesOwnTest(unittest.TestCase):
    def calls(self, past, fallen):
        """All that is told here of the fall, asked anew."""
        handed = [past, fallen, [4, 5]]
        ahead = copy.deepcopy([handed, list(past)])
        told = [fall_line(past, fallen), deeds_lost(past, fallen), letters_after(past, fallen)]
        told += [why_back(past, fallen, hand) for hand in sorted(past)]
        told += [is_why(past, fallen, hand, handed[2]) for hand in sorted(past)]
        raised(fall_line, past, [past]), raised(why_back, past, fallen, fallen)
        self.assertEqual([handed, list(past)], ahead)
        parts = [id(part) for thing in told for part in dicts_and_lists(thing)]
        self.assertEqual(len(set(parts)), len(parts))
        self.assertFalse(set(parts) & {id(part) for part in dicts_and_lists(handed)})
        return told

    def test_what_is_handed_in_stays_and_what_is_told_is_new(self):
        for past in [PAST, ROUND, {"an": []}, big_past(4, 9, 90)]:
            for fallen in (sorted(past)[::-1], [max(past)]):
                told = self.calls(past, fallen)
                due = copy.deepcopy(told)
                for part in [part for thing in told for part in dicts_and_lists(thing)]:
                    part.clear()
                self.assertEqual(self.calls(past, fallen), due)

    def test_what_is_done_to_what_was_handed_in_changes_nothing_told(self):
        past, fallen = copy.deepcopy(PAST), ["cy", "an"]
        told = self.calls(past, fallen)
        due = copy.deepcopy(told)
        past["an"].clear()
        fallen.clear()
        self.assertEqual(told, due)

    def test_the_past_is_asked_anew(self):
        past = {"an": [("tell", 0, "bo")], "bo": []}
        self.assertEqual(fall_line(past, ["an"]), {"an": 0, "bo": 1})
        self.assertIsNone(why_back(past, ["an"], "bo"))
        past["bo"].append(("hear", 0))
        self.assertEqual(fall_line(past, ["an"]), {"an": 0, "bo": 0})
        self.assertEqual(why_back(past, ["an"], "bo"), [0])
        past["an"].append(("keep",))
        self.assertEqual(fall_line(past, ["an"]), {"an": 1, "bo": 1})


if __name__ == "__main__":
    unittest.main()
