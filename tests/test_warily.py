"""Warily [20, 21]."""

import copy
import itertools
import unittest

from fallingback.errors import NoPast, NoPoint
from fallingback.lines import is_line, lines_with
from fallingback.needed import useless_points
from fallingback.nets import Net
from fallingback.pasts import is_past
from fallingback.warily import is_wary, numbers_of
from fallingback.zigzags import zigzag_between
from support import (BROKEN, NO_POINTS, PAST, NoEqual, big_past, chance_moves, dicts_and_lists, histories, last_points,
                     points_of, raised, refilled, slowly_all_lines, slowly_heard_of, slowly_wary, small_pasts, staircase,
                     things, wary_pasts)

KEEP = ("keep",)

# di heard of an through bo and cy, but of an's first part alone.
THROUGH = {"an": [("tell", 0, "bo"), KEEP, ("tell", 1, "cy"), ("tell", 2, "bo")],
           "bo": [KEEP, ("hear", 0), ("tell", 3, "cy"), KEEP, ("tell", 4, "cy")],
           "cy": [("hear", 3), ("tell", 5, "di"), KEEP, ("hear", 1), ("hear", 4)], "di": [("hear", 5), KEEP]}


def slowly_numbers(past, point):
    """The numbers of the point: by the deeds that it has heard of, in the words of [21]."""
    heard_of = slowly_heard_of(past, point)
    numbers = {}
    for hand, row in past.items():
        tales = [at for one, at in heard_of if one == hand and row[at][0] == "tell"]
        numbers[hand] = row[:max(tales)].count(KEEP) + 1 if tales else 0
    numbers[point[0]] = point[1]
    return numbers


def slowly_in_time(past, one, other):
    """Whether a row in time leads from the point to the other one: each letter heard ahead of the next one's telling."""
    told, heard = {}, {}
    for hand, row in past.items():
        for at, deed in enumerate(row):
            if deed[0] != "keep":
                (told if deed[0] == "tell" else heard)[deed[1]] = (hand, row[:at].count(KEEP), at)
    reached = {letter for letter in heard if told[letter][0] == one[0] and told[letter][1] >= one[1]}
    more = True
    while more:
        found = {after for after in heard for ahead in reached
                 if told[after][0] == heard[ahead][0] and told[after][2] > heard[ahead][2]}
        more = not found <= reached
        reached |= found
    return any(heard[letter][0] == other[0] and heard[letter][1] < other[1] for letter in reached)


class IsWaryTest(unittest.TestCase):
    def check(self, past, due):
        for filled in [past] + refilled(past):
            self.assertIs(is_wary(filled), due)

    def test_empty_rows(self):
        self.check({"an": []}, True)
        self.check({"an": [], "bo": []}, True)
        self.check({"an": [KEEP, KEEP], "bo": [KEEP]}, True)
        self.check({name: [] for name in "abcdefgh"}, True)

    def test_a_hearing_behind_a_telling_of_the_same_part(self):
        self.check({"an": [("tell", 0, "bo")], "bo": [("tell", 1, "an"), ("hear", 0)]}, False)
        self.check({"an": [("tell", 0, "bo"), ("hear", 1)], "bo": [("tell", 1, "an")]}, False)
        self.check({"an": [("tell", 0, "bo")], "bo": [KEEP, KEEP, ("tell", 1, "an"), ("hear", 0), KEEP]}, False)
        self.check({"an": [("tell", 0, "bo"), ("tell", 2, "bo")], "bo": [("hear", 0), ("tell", 1, "an"), ("hear", 2)]}, False)
        self.check({"an": [("tell", 0, "bo"), ("tell", 2, "bo")],
                    "bo": [("tell", 1, "an"), KEEP, ("hear", 0), ("tell", 3, "an"), ("hear", 2)]}, False)

    def test_a_hearing_behind_a_telling_of_another_part(self):
        self.check({"an": [("tell", 0, "bo")], "bo": [("tell", 1, "an"), KEEP, ("hear", 0)]}, True)
        self.check({"an": [("tell", 0, "bo"), KEEP, KEEP, ("hear", 1), KEEP], "bo": [("tell", 1, "an")]}, True)
        self.check({"an": [("tell", 0, "bo"), ("tell", 2, "bo")],
                    "bo": [("tell", 1, "an"), KEEP, ("hear", 0), ("hear", 2), ("tell", 3, "an")]}, True)

    def test_hearings_ahead_of_tellings(self):
        self.check({"an": [("tell", 0, "bo")], "bo": [("hear", 0), ("tell", 1, "an")]}, True)
        self.check({"an": [("tell", 0, "bo"), ("tell", 2, "bo")], "bo": [("hear", 0), ("hear", 2), ("tell", 1, "an")]}, True)
        self.check(PAST, True)
        self.check(THROUGH, True)

    def test_the_last_of_many_hands(self):
        past = {name: [] for name in "abcdefgh"}
        past["h"], past["a"] = [("tell", 1, "b"), ("hear", 0)], [("tell", 0, "h")]
        self.check(past, False)

    def test_small_pasts(self):
        counted = {True: 0, False: 0}
        for past in small_pasts() + histories(["an", "bo"], 5):
            self.assertIs(is_wary(past), slowly_wary(past), ascii(past))
            counted[slowly_wary(past)] += 1
        self.assertTrue(min(counted.values()) > 50, counted)

    def test_many_deeds(self):
        self.assertIs(is_wary(big_past(8, 40, 400)), False)
        past, _, _, _ = staircase(13, 10)
        self.assertIs(is_wary(past), False)
        wary = {hand: [way for deed in row for way in ([KEEP, deed] if deed[0] == "hear" else [deed])] for hand, row in past.items()}
        self.assertIs(is_wary(wary), True)

    def test_the_past_of_a_wary_net_behind_falls_too(self):
        falls = 0
        for seed in range(60):
            hands = ["an", "bo", "cy", "di"][:1 + seed % 4]
            net = Net(hands, wary=True)
            for word, args in chance_moves(net, seed, hands, 40, falls=0.2):
                getattr(net, word)(*args)
                self.assertIs(is_wary(net.past()), True)
                falls += word == "fall"
        self.assertGreater(falls, 200)


class WaryPastsTest(unittest.TestCase):
    def pasts(self):
        return wary_pasts() + [past for past in small_pasts() if is_wary(past)]

    def test_no_point_is_useless(self):
        self.assertTrue(useless_points({"an": [("hear", 1), KEEP, ("tell", 0, "bo")], "bo": [("tell", 1, "an"), ("hear", 0)]}))
        for past in self.pasts():
            self.assertEqual(useless_points(past), [])

    def test_where_a_zigzag_leads_a_row_in_time_does_too(self):
        counted = 0
        for past in self.pasts()[::3]:
            for one, other in itertools.product(points_of(past), repeat=2):
                if one != other:
                    led = zigzag_between(past, one, other) is not None
                    self.assertIs(led, slowly_in_time(past, one, other), ascii((past, one, other)))
                    counted += led
        self.assertGreater(counted, 500)


class NumbersTest(unittest.TestCase):
    def check(self, past, point, due):
        for filled in [past] + refilled(past):
            told = numbers_of(filled, point)
            self.assertEqual(told, due)
            self.assertIs(type(told), dict)

    def test_beginnings(self):
        for past in (PAST, THROUGH, {"an": []}, {"an": [KEEP], "bo": []}):
            for hand in past:
                self.check(past, (hand, 0), {other: 0 for other in past})

    def test_presents(self):
        self.check({"an": []}, ("an", 1), {"an": 1})
        self.check(PAST, ("di", 1), {"an": 0, "bo": 0, "cy": 0, "di": 1})
        self.check(PAST, ("cy", 1), {"an": 1, "bo": 1, "cy": 1, "di": 0})
        self.check(PAST, ("bo", 2), {"an": 2, "bo": 2, "cy": 1, "di": 0})
        self.check(PAST, ("an", 3), {"an": 3, "bo": 1, "cy": 1, "di": 0})

    def test_kept_points(self):
        self.check(PAST, ("an", 1), {"an": 1, "bo": 0, "cy": 0, "di": 0})
        self.check(PAST, ("an", 2), {"an": 2, "bo": 1, "cy": 1, "di": 0})
        self.check(PAST, ("bo", 1), {"an": 1, "bo": 1, "cy": 0, "di": 0})

    def test_what_was_heard_through_others(self):
        self.check(THROUGH, ("di", 1), {"an": 1, "bo": 2, "cy": 1, "di": 1})
        self.check(THROUGH, ("di", 2), {"an": 1, "bo": 2, "cy": 1, "di": 2})
        self.check(THROUGH, ("cy", 1), {"an": 1, "bo": 2, "cy": 1, "di": 0})
        self.check(THROUGH, ("cy", 2), {"an": 2, "bo": 3, "cy": 2, "di": 0})
        self.check(THROUGH, ("bo", 2), {"an": 1, "bo": 2, "cy": 0, "di": 0})
        self.check(THROUGH, ("bo", 1), {"an": 0, "bo": 1, "cy": 0, "di": 0})

    def test_what_was_heard_later_in_a_part_was_not_told_on(self):
        past = {"an": [("tell", 0, "bo")], "bo": [("tell", 1, "cy"), ("hear", 0)], "cy": [("hear", 1)]}
        self.check(past, ("cy", 1), {"an": 0, "bo": 1, "cy": 1})
        self.check({**past, "bo": past["bo"][::-1]}, ("cy", 1), {"an": 1, "bo": 1, "cy": 1})

    def test_tellings_to_others_and_letters_that_lie_are_heard_of(self):
        past = {"an": [("tell", 0, "cy"), KEEP, ("tell", 1, "cy"), KEEP, ("tell", 2, "bo"), KEEP, ("tell", 3, "bo")],
                "bo": [("hear", 2)], "cy": [("hear", 0)]}
        self.check(past, ("bo", 1), {"an": 3, "bo": 1, "cy": 0})
        self.check(past, ("cy", 1), {"an": 1, "bo": 0, "cy": 1})

    def test_the_latest_of_several_letters_in_whatever_order_they_were_heard(self):
        for order in itertools.permutations(range(3)):
            past = {"an": [("tell", 0, "bo"), KEEP, ("tell", 1, "bo"), KEEP, ("tell", 2, "bo"), KEEP],
                    "bo": [("hear", letter) for letter in order]}
            self.check(past, ("bo", 1), {"an": 3, "bo": 1})

    def test_what_comes_back_is_ahead_of_the_point(self):
        past = {"an": [("tell", 0, "bo"), KEEP, ("tell", 2, "bo"), KEEP, ("hear", 1), KEEP],
                "bo": [("hear", 0), ("tell", 1, "an"), ("hear", 2)]}
        self.check(past, ("an", 3), {"an": 3, "bo": 1})
        self.check(past, ("an", 4), {"an": 4, "bo": 1})

    def test_small_pasts(self):
        for past in small_pasts()[::2] + wary_pasts():
            for point in points_of(past):
                self.assertEqual(numbers_of(past, point), slowly_numbers(past, point), ascii((past, point)))

    def test_many_deeds(self):
        for past in [big_past(8, 40, 400), big_past(9, 3, 400), big_past(10, 7, 400), staircase(13, 10)[0]]:
            for point in points_of(past)[::11]:
                self.assertEqual(numbers_of(past, point), slowly_numbers(past, point))

    def test_a_long_way(self):
        names = [one + other for one in "abcd" for other in "abcdefghij"]
        past = {name: [] for name in names}
        for letter in range(195):
            past[names[letter % 40]].append(("tell", letter, names[(letter + 1) % 40]))
            past[names[(letter + 1) % 40]].append(("hear", letter))
        self.check(past, (names[35], 1), {name: 1 for name in names})

    def test_the_least_line_of_a_wary_past(self):
        counted = 0
        for past in wary_pasts() + [past for past in small_pasts() if is_wary(past)]:
            lines = slowly_all_lines(past) if len(past) < 4 else None
            for point in points_of(past):
                told = numbers_of(past, point)
                self.assertIs(is_line(past, told), True)
                self.assertEqual(lines_with(past, dict([point]))[1], told)
                if lines:
                    fit = [line for line in lines if line[point[0]] == point[1]]
                    self.assertEqual({hand: min(line[hand] for line in fit) for hand in past}, told)
                counted += sum(told.values()) > point[1]
        self.assertGreater(counted, 300)

    def test_no_line_of_any_past_has_a_lesser_number(self):
        greater = 0
        for past in small_pasts()[::2]:
            lines = slowly_all_lines(past)
            for point in points_of(past):
                told = numbers_of(past, point)
                for line in lines:
                    if line[point[0]] == point[1]:
                        self.assertTrue(all(told[hand] <= line[hand] for hand in past), ascii((past, point)))
                        greater += line != told
        self.assertGreater(greater, 100)


class RefusalsTest(unittest.TestCase):
    def test_what_is_no_past(self):
        for past in things() + BROKEN:
            with self.subTest(ascii(past)):
                self.assertIs(raised(is_wary, past), NoPast)
                for point in (("an", 0), None, [], NoEqual(), ("zz", 9)):
                    self.assertIs(raised(numbers_of, past, point), NoPast)

    def test_what_is_no_point(self):
        for thing in things() + NO_POINTS:
            with self.subTest(ascii(thing)):
                self.assertIs(raised(numbers_of, PAST, thing), NoPoint)

    def test_all_points_will_do(self):
        for past in (PAST, THROUGH, big_past(8, 40, 400)):
            for hand, end in last_points(past).items():
                for number in range(end + 1):
                    self.assertIsNone(raised(numbers_of, past, (hand, number)))

    def test_a_refusal_tells_why(self):
        for call, args in ((is_wary, (None,)), (numbers_of, (PAST, ("an", 4)))):
            with self.assertRaises(ValueError) as caught:
                call(*args)
            self.assertTrue(str(caught.exception))


class OnesOwnTest(unittest.TestCase):
    def calls(self, past):
        """All that is told here of the past, asked anew."""
        ahead = copy.deepcopy([past, list(past)])
        told = [numbers_of(past, point) for point in points_of(past)] + [is_wary(past)]
        raised(numbers_of, past, past)
        self.assertEqual([past, list(past)], ahead)
        parts = [id(part) for thing in told for part in dicts_and_lists(thing)]
        self.assertEqual(len(set(parts)), len(parts))
        return told

    def test_what_is_handed_in_stays_and_what_is_told_is_new(self):
        row = [KEEP, KEEP]
        for past in [PAST, THROUGH, {"an": []}, {"an": row, "bo": row}, big_past(4, 9, 90)]:
            told = self.calls(past)
            due = copy.deepcopy(told)
            for thing in told[:-1]:
                thing.clear()
            self.assertEqual(self.calls(past), due)

    def test_the_past_is_asked_anew(self):
        past = {"an": [("tell", 0, "bo")], "bo": [("tell", 1, "an")]}
        told = [numbers_of(past, ("bo", 1)), is_wary(past)]
        past["bo"].append(("hear", 0))
        self.assertIs(is_past(past), True)
        self.assertEqual(told, [{"an": 0, "bo": 1}, True])
        self.assertEqual([numbers_of(past, ("bo", 1)), is_wary(past)], [{"an": 1, "bo": 1}, False])


if __name__ == "__main__":
    unittest.main()
