"""What is needed [16, 17]."""

import copy
import unittest

from fallingback.errors import NoPast, NoPoint
from fallingback.needed import needed_by, needed_points, thinned_past, useless_points
from fallingback.nets import Net
from fallingback.pasts import is_past
from support import (BROKEN, NO_POINTS, PAST, PRESENTS, NoEqual, big_past, dicts_and_lists, done_by_chance, last_points,
                     points_of, raised, refilled, slowly_all_lines, slowly_left, small_pasts, staircase, stepwise_left,
                     things)

KEEP = ("keep",)

# an's point 1 stands in no line.
ROUND = {"an": [("hear", 1), KEEP, ("tell", 0, "bo"), KEEP], "bo": [("tell", 1, "an"), ("hear", 0)]}

# Of each hand only the last kept point is needed.
THICK = {"an": [KEEP, ("tell", 0, "bo"), KEEP, KEEP], "bo": [KEEP, ("hear", 0), KEEP, ("tell", 1, "cy"), KEEP, ("hear", 2)],
         "cy": [("tell", 2, "bo"), ("hear", 1), KEEP, ("tell", 3, "an")]}


def kept_of(past):
    """All kept points of the past."""
    return [(hand, number) for hand, number in points_of(past) if number < last_points(past)[hand]]


class UselessTest(unittest.TestCase):
    def check(self, past, due):
        for filled in [past] + refilled(past):
            told = useless_points(filled)
            self.assertEqual(told, due)
            self.assertEqual([type(told)] + [type(point) for point in told], [list] + [tuple] * len(told))

    def test_none(self):
        self.check(PAST, [])
        self.check({"an": []}, [])
        self.check({"an": [KEEP, KEEP], "bo": []}, [])

    def test_some(self):
        self.check(ROUND, [("an", 1)])
        self.check({**ROUND, "cy": [KEEP]}, [("an", 1)])
        past = {"bo": [("tell", 1, "an"), ("hear", 0), ("tell", 3, "cy"), KEEP, ("hear", 2)],
                "an": [("hear", 1), KEEP, KEEP, ("tell", 0, "bo"), KEEP], "cy": [("tell", 2, "bo"), KEEP, KEEP, ("hear", 3)]}
        self.check(past, [("an", 1), ("an", 2)])
        past["cy"] = [("hear", 3), KEEP, ("tell", 2, "bo")]
        self.check(past, [("an", 1), ("an", 2)])

    def test_rising(self):
        past, _, _, _ = staircase(2, 66)
        self.check(past, [("aa", number) for number in range(1, 66)] + [("ab", number) for number in range(1, 66)])

    def test_all_that_stand_in_no_line_and_never_a_beginning(self):
        counted = 0
        for past in small_pasts() + [ROUND, THICK]:
            lines = slowly_all_lines(past)
            due = [point for point in kept_of(past) if not any(line[point[0]] == point[1] for line in lines)]
            self.assertEqual(useless_points(past), due, ascii(past))
            self.assertFalse([point for point in due if point[1] == 0])
            counted += len(due)
        self.assertGreater(counted, 30)

    def test_many_deeds(self):
        for past, many in ((big_past(8, 40, 400), 22), (big_past(9, 3, 400), 9), (staircase(40, 3)[0], 80)):
            told = useless_points(past)
            self.assertEqual(len(told), many)
            self.assertEqual(told, sorted(told))


class NeededTest(unittest.TestCase):
    def check(self, past, due):
        """Whether just these points are needed, by these hands."""
        for filled in [past] + refilled(past):
            self.assertEqual(needed_points(filled), sorted(due))
            for point in kept_of(past):
                self.assertEqual(needed_by(filled, point), due.get(point, []))

    def test_points_needed_and_by_whom(self):
        self.check(PAST, {("an", 1): ["cy"], ("an", 2): ["an"], ("bo", 1): ["bo", "cy"], ("cy", 0): ["cy"], ("di", 0): ["di"]})
        self.check({"an": []}, {("an", 0): ["an"]})
        self.check({"an": [KEEP, KEEP], "bo": []}, {("an", 2): ["an"], ("bo", 0): ["bo"]})
        self.check(ROUND, {("an", 0): ["bo"], ("an", 2): ["an"], ("bo", 0): ["bo"]})
        self.check(THICK, {("an", 3): ["an"], ("bo", 3): ["bo"], ("cy", 1): ["cy"]})
        thick = {**THICK, "cy": THICK["cy"][:2]}
        self.check(thick, {("an", 3): ["an"], ("bo", 3): ["bo", "cy"], ("cy", 0): ["cy"]})

    def test_kinds(self):
        self.assertIs(type(needed_points(PAST)), list)
        self.assertTrue(all(type(point) is tuple for point in needed_points(PAST)))
        self.assertIs(type(needed_by(PAST, ("an", 0))), list)

    def test_small_pasts(self):
        for past in small_pasts() + [ROUND, THICK]:
            lines, ends = slowly_all_lines(past), last_points(past)
            due = {}
            for fallen in sorted(past):
                for point in slowly_left(past, [fallen], lines).items():
                    if point[1] < ends[point[0]]:
                        due.setdefault(point, []).append(fallen)
            self.assertEqual(needed_points(past), sorted(due), ascii(past))
            for point in kept_of(past):
                self.assertEqual(needed_by(past, point), due.get(point, []))

    def test_many_deeds(self):
        for past in [big_past(8, 40, 400), big_past(9, 3, 400), big_past(10, 7, 400)]:
            left = {fallen: stepwise_left(past, [fallen]) for fallen in sorted(past)}
            due = {point: [fallen for fallen in left if left[fallen][point[0]] == point[1]] for point in kept_of(past)}
            self.assertEqual(needed_points(past), [point for point in kept_of(past) if due[point]])
            for point in kept_of(past)[::7]:
                self.assertEqual(needed_by(past, point), due[point])

    def test_what_is_no_kept_point(self):
        for thing in things() + NO_POINTS + PRESENTS:
            with self.subTest(ascii(thing)):
                self.assertIs(raised(needed_by, PAST, thing), NoPoint)
        for point in kept_of(PAST):
            self.assertIsNone(raised(needed_by, PAST, point))


class ThinnedTest(unittest.TestCase):
    def check(self, past, due):
        for filled in [past] + refilled(past):
            self.assertEqual(thinned_past(filled), due)
            self.assertEqual(thinned_past(due), due)

    def test_thinned(self):
        self.check(PAST, PAST)
        self.check({"an": []}, {"an": []})
        self.check({"an": [KEEP, KEEP, KEEP], "bo": [KEEP]}, {"an": [KEEP], "bo": [KEEP]})
        self.check(ROUND, {"an": [("hear", 1), ("tell", 0, "bo"), KEEP], "bo": ROUND["bo"]})
        self.check(THICK, {"an": [("tell", 0, "bo"), KEEP], "bo": [("hear", 0), ("tell", 1, "cy"), KEEP, ("hear", 2)],
                           "cy": THICK["cy"]})

    def test_small_pasts(self):
        for past in small_pasts() + [ROUND, THICK, big_past(8, 40, 400), big_past(9, 3, 400), staircase(2, 66)[0]]:
            thin = thinned_past(past)
            self.assertIs(is_past(thin), True)
            needed = needed_points(past)
            for hand, row in past.items():
                keepings = [at for at, deed in enumerate(row) if deed == KEEP]
                out = [at for number, at in enumerate(keepings, start=1) if (hand, number) not in needed]
                self.assertEqual(thin[hand], [deed for at, deed in enumerate(row) if at not in out])
            self.assertEqual(list(thin), sorted(past))
            self.assertEqual(thinned_past(thin), thin)

    def test_of_nets_that_have_lived(self):
        for seed in range(40):
            hands = ["an", "bo", "cy"][:1 + seed % 3]
            thin = thinned_past(done_by_chance(Net(hands), seed, hands, 60).past())
            self.assertEqual(thinned_past(thin), thin)


class RefusalsTest(unittest.TestCase):
    def test_what_is_no_past(self):
        for past in things() + BROKEN:
            for call in (useless_points, needed_points, thinned_past):
                with self.subTest(ascii(past)):
                    self.assertIs(raised(call, past), NoPast)
            for point in (("an", 0), ("an", 1), None, [], NoEqual()):
                with self.subTest(ascii(past)):
                    self.assertIs(raised(needed_by, past, point), NoPast)

    def test_a_refusal_tells_why(self):
        for call, args in ((useless_points, (None,)), (needed_by, (PAST, ("an", 3)))):
            with self.assertRaises(ValueError) as caught:
                call(*args)
            self.assertTrue(str(caught.exception))


class OnesOwnTest(unittest.TestCase):
    def calls(self, past):
        """All that is told here of the past, asked anew."""
        ahead = copy.deepcopy([past, list(past)])
        told = [useless_points(past), needed_points(past), thinned_past(past)]
        told += [needed_by(past, point) for point in kept_of(past)]
        raised(needed_by, past, past)
        self.assertEqual([past, list(past)], ahead)
        parts = [id(part) for thing in told for part in dicts_and_lists(thing)]
        self.assertEqual(len(set(parts)), len(parts))
        self.assertFalse(set(parts) & {id(part) for part in dicts_and_lists(past)})
        return told

    def test_what_is_handed_in_stays_and_what_is_told_is_new(self):
        row = [KEEP, KEEP]
        for past in [PAST, ROUND, THICK, {"an": []}, {"an": row, "bo": row}, big_past(4, 9, 90)]:
            told = self.calls(past)
            due = copy.deepcopy(told)
            for part in [part for thing in told for part in dicts_and_lists(thing)]:
                part.clear()
            self.assertEqual(self.calls(past), due)

    def test_what_is_done_to_the_past_changes_nothing_told(self):
        past = copy.deepcopy(ROUND)
        told = self.calls(past)
        due = copy.deepcopy(told)
        past["an"].clear()
        past.clear()
        self.assertEqual(told, due)

    def test_the_past_is_asked_anew(self):
        past = {"an": [("tell", 0, "bo"), KEEP], "bo": [KEEP]}
        self.assertEqual((needed_points(past), useless_points(past)), ([("an", 1), ("bo", 1)], []))
        past["bo"].append(("hear", 0))
        past["an"].append(KEEP)
        self.assertEqual((needed_points(past), needed_by(past, ("an", 1))), ([("an", 2), ("bo", 1)], []))
        self.assertEqual(thinned_past(past), {"an": [("tell", 0, "bo"), KEEP], "bo": [KEEP, ("hear", 0)]})


if __name__ == "__main__":
    unittest.main()
