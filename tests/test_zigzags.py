"""Zigzags [9, 10]."""

import copy
import itertools
import unittest

from fallingback.errors import NoPast, NoPoint
from fallingback.zigzags import is_zigzag, zigzag_between
from support import (BROKEN, NO_POINTS, PAST, NoEqual, big_past, histories, points_of, raised, refilled, slowly_a_zigzag,
                     staircase, things, whereabouts)

# bo tells 1 to cy ahead of hearing 0 from an, all in one part: no word comes from an to cy, a zigzag does.
EARLIER = {
    "an": [("keep",), ("tell", 0, "bo")],
    "bo": [("tell", 1, "cy"), ("hear", 0)],
    "cy": [("hear", 1), ("keep",)],
}

# One letter from an, told in its part 2, heard in bo's part 1.
ONE = {
    "an": [("keep",), ("keep",), ("tell", 0, "bo"), ("keep",)],
    "bo": [("keep",), ("hear", 0), ("keep",), ("keep",)],
}


def slowly_fewest(past, one, other):
    """Of how many letters a zigzag is at the fewest, None where none is: by all ways of growing length."""
    told, heard = whereabouts(past)
    ends = {letter for letter in heard if told[letter][0] == one[0] and told[letter][1] >= one[1]}
    for many in range(1, len(heard) + 1):
        if any(heard[letter][0] == other[0] and heard[letter][1] < other[1] for letter in ends):
            return many
        ends = {after for after in heard for ahead in ends
                if told[after][0] == heard[ahead][0] and told[after][1] >= heard[ahead][1]}
    return None


class IsZigzagTest(unittest.TestCase):
    def check(self, past, one, other, letters, due):
        with self.subTest(one=one, other=other, letters=letters):
            self.assertIs(is_zigzag(past, one, other, letters), due)

    def test_one_letter(self):
        for one, other, due in [
            (("an", 0), ("bo", 2), True), (("an", 1), ("bo", 2), True), (("an", 2), ("bo", 2), True),
            (("an", 3), ("bo", 2), False), (("an", 4), ("bo", 2), False), (("an", 2), ("bo", 0), False),
            (("an", 2), ("bo", 1), False), (("an", 2), ("bo", 3), True), (("an", 2), ("bo", 4), True),
            (("an", 3), ("bo", 4), False), (("an", 0), ("bo", 1), False), (("an", 2), ("an", 4), False),
            (("bo", 0), ("bo", 4), False), (("bo", 0), ("an", 4), False),
        ]:
            self.check(ONE, one, other, [0], due)

    def test_several_letters(self):
        self.check(PAST, ("an", 0), ("cy", 1), [0, 3], True)
        self.check(PAST, ("an", 0), ("an", 2), [0, 3, 4], True)
        self.check(PAST, ("an", 0), ("bo", 2), [0, 3, 4, 5], True)
        self.check(PAST, ("an", 0), ("bo", 1), [0, 3, 4, 5], False)
        self.check(PAST, ("an", 1), ("an", 2), [0, 3, 4], False)
        self.check(PAST, ("an", 0), ("an", 1), [0, 3, 4], False)
        self.check(PAST, ("bo", 0), ("bo", 2), [3, 4, 5], True)
        self.check(PAST, ("bo", 1), ("bo", 2), [3, 4, 5], False)

    def test_letters_that_do_not_follow(self):
        self.check(PAST, ("an", 0), ("an", 2), [0, 4], False)
        self.check(PAST, ("an", 0), ("an", 2), [4], False)
        self.check(PAST, ("an", 0), ("an", 2), [3, 4], False)
        self.check(PAST, ("an", 0), ("cy", 1), [3, 0], False)
        self.check(PAST, ("an", 0), ("an", 2), [0, 3], False)
        self.check(PAST, ("an", 0), ("bo", 1), [0, 3], False)

    def test_a_next_letter_told_earlier_in_the_same_part(self):
        self.check(EARLIER, ("an", 1), ("cy", 1), [0, 1], True)
        self.check(EARLIER, ("an", 0), ("cy", 2), [0, 1], True)
        self.check(EARLIER, ("an", 2), ("cy", 1), [0, 1], False)

    def test_a_next_letter_told_in_an_earlier_or_a_later_part(self):
        past = {"an": [("keep",), ("tell", 0, "bo")], "bo": [("tell", 1, "cy"), ("keep",), ("hear", 0), ("keep",),
                ("tell", 2, "cy")], "cy": [("hear", 1), ("hear", 2), ("keep",)]}
        self.check(past, ("an", 1), ("cy", 1), [0, 1], False)
        self.check(past, ("an", 1), ("cy", 1), [0, 2], True)

    def test_to_the_same_point_and_the_same_hand(self):
        past = {"an": [("hear", 1), ("keep",), ("tell", 0, "bo"), ("keep",)], "bo": [("tell", 1, "an"), ("hear", 0)]}
        for one, other, due in [(1, 1, True), (0, 0, False), (2, 2, False), (0, 1, True), (1, 2, True), (1, 3, True),
                                (1, 0, False), (2, 3, False)]:
            self.check(past, ("an", one), ("an", other), [0, 1], due)
        self.check(past, ("bo", 0), ("bo", 1), [1, 0], True)
        self.check(past, ("bo", 1), ("bo", 1), [1, 0], False)
        self.check(past, ("bo", 0), ("bo", 0), [1, 0], False)

    def test_a_letter_twice(self):
        past = {"an": [("hear", 1), ("tell", 0, "bo"), ("hear", 3)], "bo": [("tell", 1, "an"), ("hear", 0)]}
        past["bo"].append(("tell", 3, "an"))
        self.check(past, ("an", 0), ("an", 1), [0, 1], True)
        self.check(past, ("an", 0), ("an", 1), [0, 1, 0, 1], True)
        self.check(past, ("an", 0), ("an", 1), [0, 3, 0, 1, 0, 3], True)
        self.check(past, ("an", 0), ("bo", 1), [0, 1] * 300 + [0], True)
        self.check(past, ("an", 0), ("an", 1), [0, 0, 1], False)

    def test_letters_that_lie(self):
        past = {"an": [("tell", 0, "bo"), ("tell", 1, "bo")], "bo": [("hear", 0), ("tell", 2, "an"), ("tell", 3, "an")]}
        past["an"].append(("hear", 3))
        self.check(past, ("an", 0), ("bo", 1), [0], True)
        self.check(past, ("an", 0), ("bo", 1), [1], False)
        self.check(past, ("an", 0), ("an", 1), [0, 3], True)
        self.check(past, ("an", 0), ("an", 1), [0, 2], False)
        self.check(past, ("an", 0), ("an", 1), [1, 3], False)

    def test_the_empty_list(self):
        for one in points_of(PAST):
            for other in points_of(PAST):
                self.check(PAST, one, other, [], False)

    def test_things_of_any_kind(self):
        past = {"an": [("tell", 0, "bo"), ("tell", 1, "bo")], "bo": [("hear", 0), ("hear", 1)]}
        self.check(past, ("an", 0), ("bo", 1), [1], True)
        for thing in things() + [(0,), (1,), "0", 0, 1, {0: 0}, {1}, ("an", 0), ("bo", 1), range(1), past]:
            with self.subTest(ascii(thing)):
                self.assertIs(is_zigzag(past, ("an", 0), ("bo", 1), thing), False)
        for thing in things() + ["0", "an", (0,), [0], -1, 2, ("hear", 0)]:
            with self.subTest(ascii(thing)):
                self.assertIs(is_zigzag(past, ("an", 0), ("bo", 1), [thing]), False)
                self.assertIs(is_zigzag(past, ("an", 0), ("bo", 1), [thing, 1]), False)
                self.assertIs(is_zigzag(past, ("an", 0), ("bo", 1), [1, thing]), False)

    def test_all_small_pasts(self):
        counted = 0
        for past in histories(["an", "bo"], 5):
            letters = sorted(whereabouts(past)[0])
            lists = [list(row) for many in (1, 2, 3) for row in itertools.product(letters, repeat=many)]
            if len(letters) < 2 or len(whereabouts(past)[1]) < 2:
                lists = lists[:2]
            for one, other in itertools.product(points_of(past), repeat=2):
                for row in lists:
                    due = slowly_a_zigzag(past, one, other, row)
                    counted += due
                    if is_zigzag(past, one, other, row) is not due:
                        self.fail(ascii((past, one, other, row)))
        self.assertGreater(counted, 100)


class ZigzagBetweenTest(unittest.TestCase):
    def check(self, past, one, other):
        told = zigzag_between(past, one, other)
        many = slowly_fewest(past, one, other)
        if many is None:
            self.assertIsNone(told, ascii((past, one, other)))
            return
        self.assertIs(type(told), list, ascii((past, one, other)))
        self.assertEqual(len(told), many, ascii((past, one, other, told)))
        self.assertTrue(slowly_a_zigzag(past, one, other, told), ascii((past, one, other, told)))
        self.assertIs(is_zigzag(past, one, other, told), True)

    def test_where_one_leads(self):
        for past, one, other, due in [
            (ONE, ("an", 2), ("bo", 2), [0]), (ONE, ("an", 0), ("bo", 4), [0]), (PAST, ("an", 0), ("cy", 1), [0, 3]),
            (PAST, ("an", 0), ("an", 2), [0, 3, 4]), (PAST, ("an", 1), ("bo", 2), [5]), (EARLIER, ("an", 1), ("cy", 1), [0, 1]),
            (PAST, ("bo", 0), ("bo", 2), [3, 4, 5]),
        ]:
            with self.subTest(one=one, other=other):
                self.assertEqual(zigzag_between(past, one, other), due)

    def test_where_none_leads(self):
        for past, one, other in [
            (ONE, ("an", 3), ("bo", 4)), (ONE, ("an", 2), ("bo", 1)), (ONE, ("an", 2), ("bo", 0)), (ONE, ("bo", 0), ("an", 4)),
            (ONE, ("an", 0), ("an", 4)), (PAST, ("di", 0), ("di", 1)), (PAST, ("an", 0), ("di", 1)), (PAST, ("an", 2), ("cy", 1)),
            ({"an": []}, ("an", 0), ("an", 1)), ({"an": []}, ("an", 0), ("an", 0)),
        ]:
            with self.subTest(one=one, other=other):
                self.assertIsNone(zigzag_between(past, one, other))

    def test_to_the_same_point(self):
        past = {"an": [("hear", 1), ("keep",), ("tell", 0, "bo"), ("keep",)], "bo": [("tell", 1, "an"), ("hear", 0)]}
        self.assertEqual(zigzag_between(past, ("an", 1), ("an", 1)), [0, 1])
        self.assertEqual(zigzag_between(past, ("an", 1), ("an", 3)), [0, 1])
        self.assertIsNone(zigzag_between(past, ("an", 2), ("an", 2)))
        self.assertIsNone(zigzag_between(past, ("an", 0), ("an", 0)))
        self.assertIsNone(zigzag_between(past, ("bo", 1), ("bo", 1)))

    def test_the_fewest_letters_where_several_ways_lead(self):
        past = {"an": [("tell", 0, "bo"), ("tell", 1, "cy")], "bo": [("hear", 0), ("tell", 2, "cy")],
                "cy": [("hear", 2), ("tell", 3, "di"), ("hear", 1), ("tell", 4, "di")], "di": [("hear", 3), ("hear", 4)]}
        told = zigzag_between(past, ("an", 0), ("di", 1))
        self.assertIn(told, [[1, 3], [1, 4]])
        past["an"].append(("tell", 9, "di"))
        self.assertEqual(len(zigzag_between(past, ("an", 0), ("di", 1))), 2)
        past["di"].append(("hear", 9))
        self.assertEqual(zigzag_between(past, ("an", 0), ("di", 1)), [9])

    def test_letters_that_lie_lead_nowhere(self):
        past = {"an": [("tell", 0, "bo")], "bo": [("tell", 1, "cy")], "cy": [("hear", 1)]}
        self.assertIsNone(zigzag_between(past, ("an", 0), ("bo", 1)))
        self.assertIsNone(zigzag_between(past, ("an", 0), ("cy", 1)))
        past["bo"].append(("hear", 0))
        self.assertEqual(zigzag_between(past, ("an", 0), ("cy", 1)), [0, 1])

    def test_all_small_pasts(self):
        for past in histories(["an", "bo"], 5) + histories(["an", "bo", "cy"], 3):
            for one, other in itertools.product(points_of(past), repeat=2):
                self.check(past, one, other)

    def test_larger_pasts(self):
        for seed in range(6):
            past = big_past(seed, 2 + seed, 40)
            for one, other in itertools.product(points_of(past), repeat=2):
                self.check(past, one, other)

    def test_many_deeds(self):
        for past in [big_past(8, 40, 400), big_past(9, 3, 400)]:
            points = points_of(past)
            for one, other in zip(points[::5], points[7:] + points[:7]):
                self.check(past, one, other)

    def test_long_ways(self):
        for hands, levels in ((2, 66), (40, 3), (13, 10)):
            past, one, other, way = staircase(hands, levels)
            with self.subTest(hands=hands):
                self.assertEqual(zigzag_between(past, one, other), way)
                self.assertIs(is_zigzag(past, one, other, way), True)
                self.assertIs(is_zigzag(past, one, other, way[:-1]), False)
                self.assertIs(is_zigzag(past, one, other, way[:50] + way[51:]), False)
                self.assertIsNone(zigzag_between(past, one, (other[0], 0)))

    def test_the_same_is_told_again(self):
        for past in [PAST, EARLIER, big_past(12, 6, 120), big_past(13, 40, 400)]:
            points = points_of(past)
            for one, other in zip(points, points[3:] + points[:3]):
                due = zigzag_between(past, one, other)
                for filled in [past, copy.deepcopy(past)] + refilled(past):
                    self.assertEqual(zigzag_between(filled, one, other), due)


class RefusalsTest(unittest.TestCase):
    def refusal(self, past, one, other):
        found = {raised(zigzag_between, past, one, other)}
        for thing in (None, [], [0], [NoEqual()]):
            found.add(raised(is_zigzag, past, one, other, thing))
        self.assertEqual(len(found), 1)
        return found.pop()

    def test_what_is_no_past(self):
        for past in things() + BROKEN:
            for one, other in ((("an", 0), ("an", 1)), (None, None), (("an", 0), None), ([], NoEqual())):
                with self.subTest(ascii(past)):
                    self.assertIs(self.refusal(past, one, other), NoPast)

    def test_what_is_no_point(self):
        for thing in things() + NO_POINTS:
            with self.subTest(ascii(thing)):
                self.assertIs(self.refusal(PAST, thing, ("an", 0)), NoPoint)
                self.assertIs(self.refusal(PAST, ("an", 0), thing), NoPoint)
                self.assertIs(self.refusal(PAST, thing, thing), NoPoint)

    def test_all_points_will_do(self):
        for one in points_of(PAST):
            for other in points_of(PAST):
                self.assertIsNone(self.refusal(PAST, one, other))
        self.assertEqual(len(points_of(PAST)), 4 + 3 + 2 + 2)

    def test_points_are_refused_whatever_the_list(self):
        self.assertIs(raised(is_zigzag, PAST, ("an", 4), ("cy", 1), [0, 3]), NoPoint)
        self.assertIs(raised(is_zigzag, PAST, ("an", 0), ("cy", 2), [0, 3]), NoPoint)


class OnesOwnTest(unittest.TestCase):
    def test_what_is_handed_in_stays(self):
        for past in [PAST, big_past(4, 9, 90)]:
            ahead, hands = copy.deepcopy(past), list(past)
            for one, other in itertools.product(points_of(past), repeat=2):
                letters = [0, 3, 4]
                is_zigzag(past, one, other, letters)
                zigzag_between(past, one, other)
                self.assertEqual(letters, [0, 3, 4])
            raised(zigzag_between, past, None, None)
            self.assertEqual(past, ahead)
            self.assertEqual(list(past), hands)
        things_within = [[0], 3, {"an": []}]
        ahead = copy.deepcopy(things_within)
        is_zigzag(PAST, ("an", 0), ("cy", 1), things_within)
        self.assertEqual(things_within, ahead)

    def test_what_is_told_is_the_askers_own(self):
        past = copy.deepcopy(PAST)
        told = zigzag_between(past, ("an", 0), ("an", 2))
        self.assertEqual(told, [0, 3, 4])
        told.clear()
        self.assertEqual(zigzag_between(past, ("an", 0), ("an", 2)), [0, 3, 4])
        self.assertEqual(past, PAST)
        kept = zigzag_between(past, ("an", 0), ("an", 2))
        past["an"].clear()
        self.assertEqual(kept, [0, 3, 4])

    def test_the_past_is_asked_anew(self):
        past = {"an": [("tell", 0, "bo")], "bo": []}
        self.assertIsNone(zigzag_between(past, ("an", 0), ("bo", 1)))
        self.assertIs(is_zigzag(past, ("an", 0), ("bo", 1), [0]), False)
        past["bo"].append(("hear", 0))
        self.assertEqual(zigzag_between(past, ("an", 0), ("bo", 1)), [0])
        self.assertIs(is_zigzag(past, ("an", 0), ("bo", 1), [0]), True)


if __name__ == "__main__":
    unittest.main()
