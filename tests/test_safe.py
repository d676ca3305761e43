"""What is safe [18, 19]."""

import copy
import itertools
import random
import unittest

from fallingback.errors import NoPart, NoPast
from fallingback.falls import fall_line
from fallingback.nets import Net
from fallingback.safe import must_keep, safe_line
from support import (BROKEN, NO_POINTS, PAST, PRESENTS, NoEqual, big_past, chance_moves, dicts_and_lists, done_by_chance,
                     last_points, points_of, raised, refilled, slowly_all_lines, slowly_left, small_pasts, staircase,
                     stepwise_left, things)

KEEP = ("keep",)

# an told bo, bo told cy, and nobody has kept a point.
CHAIN = {"an": [("tell", 0, "bo")], "bo": [("hear", 0), ("tell", 1, "cy")], "cy": [("hear", 1)], "di": [("tell", 2, "an")]}


def parts_of(past):
    """All parts of the past."""
    return [(hand, number) for hand, number in points_of(past) if number < last_points(past)[hand]]


def kept_by(past, hands):
    """The past behind one more keeping of each of the hands."""
    return {hand: row + [KEEP] * (hand in hands) for hand, row in past.items()}


def slowly_safe(past, part):
    """Whether the part is safe: the words of [18], by the line that all go back to step by step."""
    return part[1] < stepwise_left(past, list(past))[part[0]]


class SafeLineTest(unittest.TestCase):
    def check(self, past, due):
        for filled in [past] + refilled(past):
            told = safe_line(filled)
            self.assertEqual(told, due)
            self.assertIs(type(told), dict)

    def test_safe_lines(self):
        self.check(PAST, {"an": 1, "bo": 1, "cy": 0, "di": 0})
        self.check({"an": []}, {"an": 0})
        self.check({"an": [KEEP, KEEP], "bo": []}, {"an": 2, "bo": 0})
        self.check(CHAIN, {"an": 0, "bo": 0, "cy": 0, "di": 0})
        self.check(kept_by(CHAIN, ["an", "bo", "cy"]), {"an": 1, "bo": 1, "cy": 1, "di": 0})
        self.check(kept_by(CHAIN, ["an", "cy"]), {"an": 1, "bo": 0, "cy": 0, "di": 0})
        self.check({"an": [("hear", 1), KEEP, ("tell", 0, "bo")], "bo": [("tell", 1, "an"), KEEP, ("hear", 0), KEEP]},
                   {"an": 1, "bo": 1})

    def test_it_is_the_line_of_the_fall_of_all(self):
        for past in small_pasts():
            lines = slowly_all_lines(past)
            self.assertEqual(safe_line(past), slowly_left(past, list(past), lines), ascii(past))
            self.assertEqual(safe_line(past), fall_line(past, list(past)))

    def test_many_deeds(self):
        for past in [big_past(8, 40, 400), big_past(9, 3, 400), big_past(10, 7, 400), staircase(40, 3)[0], staircase(2, 66)[0]]:
            self.assertEqual(safe_line(past), stepwise_left(past, list(past)))


class NeverLostTest(unittest.TestCase):
    def deeds_safe(self, past):
        """Of each hand the deeds in its safe parts, a keeping in the part that it ends."""
        line = safe_line(past)
        ends = {hand: [0] + [at + 1 for at, deed in enumerate(row) if deed == KEEP] for hand, row in past.items()}
        return {hand: row[:ends[hand][line[hand]]] for hand, row in past.items()}

    def test_no_deed_in_a_safe_part_is_lost_by_whatever_comes(self):
        counted = falls = 0
        for seed in range(150):
            hands = ["an", "bo", "cy", "di"][:1 + seed % 4]
            net = done_by_chance(Net(hands, wary=seed % 3 == 0), seed, hands, 10 + seed % 25, falls=0.03)
            safe = self.deeds_safe(net.past())
            for word, args in chance_moves(net, seed + 1000, hands, 40, falls=0.25):
                getattr(net, word)(*args)
                falls += word == "fall"
                more = self.deeds_safe(net.past())
                for hand in hands:
                    self.assertEqual(net.past()[hand][:len(safe[hand])], safe[hand])
                    self.assertEqual(more[hand][:len(safe[hand])], safe[hand])
                safe = more
            counted += sum(map(len, safe.values()))
        self.assertTrue(counted > 1000 and falls > 1000, (counted, falls))

    def test_every_other_part_is_lost_if_all_fall_now(self):
        for seed in range(60):
            hands = ["an", "bo", "cy", "di"][:1 + seed % 4]
            net = done_by_chance(Net(hands), seed, hands, 30)
            safe = self.deeds_safe(net.past())
            net.fall(hands)
            self.assertEqual(net.past(), safe)


class MustKeepTest(unittest.TestCase):
    def check(self, past, part, due):
        for filled in [past] + refilled(past):
            told = must_keep(filled, part)
            self.assertEqual(told, due)
            self.assertIs(type(told), list)

    def test_none_of_what_is_safe(self):
        for past, part in [(PAST, ("an", 0)), (PAST, ("bo", 0)), ({"an": [KEEP]}, ("an", 0)),
                           ({"an": [KEEP, KEEP], "bo": []}, ("an", 1)), (kept_by(CHAIN, ["an", "bo", "cy"]), ("cy", 0))]:
            self.check(past, part, [])

    def test_one_hand(self):
        self.check({"an": []}, ("an", 0), ["an"])
        self.check(PAST, ("di", 0), ["di"])
        self.check(PAST, ("cy", 0), ["cy"])
        self.check(CHAIN, ("an", 0), ["an"])
        self.check(kept_by(CHAIN, ["an", "bo"]), ("cy", 0), ["cy"])
        self.check(kept_by(CHAIN, ["bo", "cy"]), ("cy", 0), ["an"])

    def test_some_hands(self):
        self.check(PAST, ("an", 1), ["cy"])
        self.check(PAST, ("an", 2), ["an", "cy"])
        self.check(PAST, ("bo", 1), ["bo", "cy"])
        self.check(CHAIN, ("bo", 0), ["an", "bo"])
        self.check(CHAIN, ("cy", 0), ["an", "bo", "cy"])
        self.check(kept_by(CHAIN, ["bo"]), ("cy", 0), ["an", "cy"])

    def test_all_hands(self):
        self.check({**CHAIN, "an": [("hear", 2)] + CHAIN["an"]}, ("cy", 0), ["an", "bo", "cy", "di"])
        names = [one + other for one in "abcd" for other in "abcdefghij"]
        past = {name: [] for name in names}
        for at, (one, other) in enumerate(zip(names, names[1:])):
            past[one].append(("tell", at, other))
            past[other].append(("hear", at))
        self.check(past, (names[-1], 0), names)
        self.check(past, (names[20], 0), names[:21])

    def test_parts_without_deeds(self):
        self.check(kept_by(PAST, PAST), ("an", 3), ["an"])
        self.check(kept_by(PAST, PAST), ("di", 1), ["di"])
        self.check({"an": [KEEP], "bo": []}, ("bo", 0), ["bo"])
        self.check({"an": [KEEP, KEEP], "bo": [KEEP]}, ("an", 1), [])
        self.check({"an": [KEEP, KEEP], "bo": [KEEP]}, ("an", 2), ["an"])

    def test_a_zigzag_asks_for_hands_of_which_no_word_came(self):
        past = {"an": [("hear", 0)], "bo": [("tell", 0, "an"), ("hear", 1)], "cy": [("tell", 1, "bo")]}
        self.check(past, ("an", 0), ["an", "bo", "cy"])
        self.check({**past, "bo": [("tell", 0, "an"), KEEP, ("hear", 1)]}, ("an", 0), ["an"])

    def test_all_of_them_must_and_it_is_enough(self):
        counted = {}
        for past in small_pasts()[::2] + [PAST, CHAIN]:
            choices = [list(some) for many in range(len(past) + 1) for some in itertools.combinations(sorted(past), many)]
            for part in parts_of(past):
                told = must_keep(past, part)
                self.assertEqual(told, sorted(set(told)))
                for some in choices:
                    self.assertIs(slowly_safe(kept_by(past, some), part), set(told) <= set(some), ascii((past, part, some)))
                counted[len(told)] = counted.get(len(told), 0) + 1
        self.assertTrue(all(counted[many] > 20 for many in range(4)), counted)

    def test_many_deeds(self):
        for past in [big_past(8, 40, 400), big_past(9, 3, 400), big_past(10, 7, 400), staircase(13, 10)[0]]:
            for part in parts_of(past)[::5]:
                told = must_keep(past, part)
                self.assertIs(slowly_safe(past, part), not told)
                self.assertTrue(slowly_safe(kept_by(past, told), part))
                for one in told:
                    self.assertFalse(slowly_safe(kept_by(past, [hand for hand in told if hand != one]), part))
                    self.assertFalse(slowly_safe(kept_by(past, [hand for hand in past if hand != one]), part))

    def test_behind_keepings_on_a_net(self):
        for seed in range(40):
            hands = ["an", "bo", "cy"]
            past = done_by_chance(Net(hands), seed, hands, 30).past()
            for part in parts_of(past)[-3:]:
                net = done_by_chance(Net(hands), seed, hands, 30)
                told = must_keep(past, part)
                random.Random(seed).shuffle(told)
                for hand in told:
                    self.assertNotEqual(must_keep(net.past(), part), [])
                    net.keep(hand)
                self.assertEqual(must_keep(net.past(), part), [])
                kept = net.past()[part[0]]
                net.fall(hands)
                self.assertEqual(net.past()[part[0]][:len(kept)], kept[:len(net.past()[part[0]])])
                self.assertGreater(net.past()[part[0]].count(KEEP), part[1])


class RefusalsTest(unittest.TestCase):
    def test_what_is_no_past(self):
        for past in things() + BROKEN:
            with self.subTest(ascii(past)):
                self.assertIs(raised(safe_line, past), NoPast)
                for part in (("an", 0), None, [], NoEqual(), ("zz", 9)):
                    self.assertIs(raised(must_keep, past, part), NoPast)

    def test_what_is_no_part(self):
        for thing in things() + NO_POINTS + PRESENTS:
            with self.subTest(ascii(thing)):
                self.assertIs(raised(must_keep, PAST, thing), NoPart)

    def test_all_parts_will_do(self):
        for past in (PAST, CHAIN, big_past(8, 40, 400)):
            for part in parts_of(past):
                self.assertIsNone(raised(must_keep, past, part))

    def test_a_refusal_tells_why(self):
        for call, args in ((safe_line, (None,)), (must_keep, (PAST, ("an", 3)))):
            with self.assertRaises(ValueError) as caught:
                call(*args)
            self.assertTrue(str(caught.exception))


class OnesOwnTest(unittest.TestCase):
    def calls(self, past):
        """All that is told here of the past, asked anew."""
        ahead = copy.deepcopy([past, list(past)])
        told = [safe_line(past)] + [must_keep(past, part) for part in parts_of(past)]
        raised(must_keep, past, past)
        self.assertEqual([past, list(past)], ahead)
        parts = [id(part) for thing in told for part in dicts_and_lists(thing)]
        self.assertEqual(len(set(parts)), len(parts))
        return told

    def test_what_is_handed_in_stays_and_what_is_told_is_new(self):
        row = [KEEP, KEEP]
        for past in [PAST, CHAIN, {"an": []}, {"an": row, "bo": row}, big_past(4, 9, 90)]:
            told = self.calls(past)
            due = copy.deepcopy(told)
            for thing in told:
                thing.clear()
            self.assertEqual(self.calls(past), due)

    def test_the_past_is_asked_anew(self):
        past = copy.deepcopy(CHAIN)
        told = [safe_line(past), must_keep(past, ("bo", 0))]
        past["an"].append(KEEP)
        self.assertEqual(told, [{"an": 0, "bo": 0, "cy": 0, "di": 0}, ["an", "bo"]])
        self.assertEqual([safe_line(past), must_keep(past, ("bo", 0))], [{"an": 1, "bo": 0, "cy": 0, "di": 0}, ["bo"]])


if __name__ == "__main__":
    unittest.main()
