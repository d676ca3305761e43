"""Lines [11, 12, 13]."""

import copy
import itertools
import unittest

from fallingback.errors import NoLine, NoPast, NoPoints, TooMany
from fallingback.lines import earlier_of, is_line, later_of, lines_between, lines_with
from fallingback.zigzags import is_zigzag
from support import (BROKEN, PAST, NoEqual, big_past, dicts_and_lists, last_points, points_of, raised, refilled,
                     slowly_a_line, slowly_a_zigzag, slowly_all_lines, small_pasts, staircase, things)

BEGINNINGS = {"an": 0, "bo": 0, "cy": 0, "di": 0}
PRESENTS = {"an": 3, "bo": 2, "cy": 1, "di": 1}

# an's point 1 stands in no line: a zigzag leads from it to itself.
ROUND = {"an": [("hear", 1), ("keep",), ("tell", 0, "bo"), ("keep",)], "bo": [("tell", 1, "an"), ("hear", 0)]}


def kept_only(numbers):
    """A past without letters, of hands that have so many points each, their presents counted."""
    return {"abcdefgh"[at]: [("keep",)] * (number - 2) for at, number in enumerate(numbers)}


class IsLineTest(unittest.TestCase):
    def test_beginnings_and_presents(self):
        for past in [PAST, ROUND, {"an": []}, big_past(1, 40, 400), big_past(2, 3, 400), staircase(2, 66)[0]]:
            self.assertIs(is_line(past, {hand: 0 for hand in past}), True)
            self.assertIs(is_line(past, last_points(past)), True)

    def test_lines_and_others(self):
        for numbers, due in [
            ((1, 0, 0, 0), True), ((1, 1, 0, 0), True), ((1, 1, 1, 1), True), ((2, 1, 1, 0), True), ((3, 2, 1, 0), True),
            ((0, 1, 0, 0), False), ((1, 0, 1, 0), False), ((2, 1, 0, 0), False), ((2, 0, 1, 0), False), ((1, 2, 1, 0), False),
            ((3, 1, 0, 1), False), ((0, 0, 0, 1), True),
        ]:
            line = dict(zip(["an", "bo", "cy", "di"], numbers))
            with self.subTest(numbers):
                self.assertIs(is_line(PAST, line), due)
                for filled in refilled(line):
                    self.assertIs(is_line(PAST, filled), due)

    def test_a_letter_told_behind_and_heard_in_the_part_ahead(self):
        past = {"an": [("keep",), ("tell", 0, "bo"), ("keep",)], "bo": [("keep",), ("hear", 0), ("keep",)]}
        for one, other in itertools.product(range(4), repeat=2):
            with self.subTest(an=one, bo=other):
                self.assertIs(is_line(past, {"an": one, "bo": other}), not (one <= 1 and other >= 2))

    def test_a_letter_that_lies_forbids_nothing(self):
        past = {"an": [("keep",), ("tell", 0, "bo")], "bo": [("keep",)]}
        for one, other in itertools.product(range(3), repeat=2):
            self.assertIs(is_line(past, {"an": one, "bo": other}), True)

    def test_dicts_that_are_none(self):
        good = {"an": 1, "bo": 1, "cy": 1, "di": 1}
        self.assertIs(is_line(PAST, good), True)
        for hand in good:
            less = dict(good)
            del less[hand]
            self.assertIs(is_line(PAST, less), False)
            for number in (-1, 4, 10 ** 9, True, False, 1.0, 0.0, "1", None, [1], (1,), {}, 1j, NoEqual()):
                with self.subTest(hand, number=ascii(number)):
                    self.assertIs(is_line(PAST, {**good, hand: number}), False)
            for other in ("An", "ed", "", b"an", 0, None, (hand,), True):
                with self.subTest(hand, other=other):
                    self.assertIs(is_line(PAST, {**less, other: 1}), False)
                    self.assertIs(is_line(PAST, {**good, other: 1}), False)
        self.assertIs(is_line(PAST, {"an": 1, "bo": 1, "cy": 2, "di": 1}), False)
        self.assertIs(is_line({"an": []}, {"an": True}), False)
        self.assertIs(is_line({"an": []}, {"an": 1}), True)

    def test_things_of_any_kind(self):
        for thing in things() + [[("an", 0)], list(BEGINNINGS), list(BEGINNINGS.items()), tuple(BEGINNINGS), PAST, [BEGINNINGS]]:
            with self.subTest(ascii(thing)):
                self.assertIs(is_line(PAST, thing), False)

    def test_all_small_pasts(self):
        for past in small_pasts() + [ROUND]:
            hands = sorted(past)
            lines = slowly_all_lines(past)
            for numbers in itertools.product(*[range(last_points(past)[hand] + 1) for hand in hands]):
                line = dict(zip(hands, numbers))
                if is_line(past, line) is not (line in lines):
                    self.fail(ascii((past, line)))

    def test_what_is_no_past(self):
        for past in things() + BROKEN:
            for thing in (None, {}, {"an": 0}, [], NoEqual()):
                with self.subTest(ascii(past)):
                    self.assertIs(raised(is_line, past, thing), NoPast)


class LinesWithTest(unittest.TestCase):
    def check_zigzag(self, past, points, told):
        """Whether what is told is a zigzag between two of the points."""
        self.assertEqual((type(told), len(told), told[0]), (tuple, 4, "zigzag"))
        for point in told[1:3]:
            self.assertIs(type(point), tuple)
            self.assertIn(point, list(points.items()))
        self.assertIs(type(told[3]), list)
        self.assertTrue(slowly_a_zigzag(past, told[1], told[2], told[3]), ascii((past, points, told)))
        self.assertIs(is_zigzag(past, *told[1:]), True)

    def check(self, past, points, lines):
        told = lines_with(past, points)
        fit = [line for line in lines if all(line[hand] == points[hand] for hand in points)]
        if not fit:
            self.check_zigzag(past, points, told)
            return
        least = {hand: min(line[hand] for line in fit) for hand in past}
        greatest = {hand: max(line[hand] for line in fit) for hand in past}
        self.assertEqual(told, ("lines", least, greatest), ascii((past, points)))
        self.assertIs(type(told), tuple)
        self.assertTrue(least in fit and greatest in fit)

    def test_of_no_point(self):
        self.assertEqual(lines_with(PAST, {}), ("lines", BEGINNINGS, PRESENTS))
        self.assertEqual(lines_with({"an": []}, {}), ("lines", {"an": 0}, {"an": 1}))

    def test_of_one_point(self):
        for point, least, greatest in [
            (("an", 0), (0, 0, 0, 0), (0, 0, 0, 1)), (("an", 1), (1, 0, 0, 0), (1, 1, 1, 1)),
            (("an", 2), (2, 1, 1, 0), (2, 2, 1, 1)), (("an", 3), (3, 1, 1, 0), (3, 2, 1, 1)),
            (("bo", 0), (0, 0, 0, 0), (1, 0, 0, 1)), (("bo", 1), (1, 1, 0, 0), (3, 1, 1, 1)),
            (("bo", 2), (2, 2, 1, 0), (3, 2, 1, 1)), (("cy", 0), (0, 0, 0, 0), (1, 1, 0, 1)),
            (("cy", 1), (1, 1, 1, 0), (3, 2, 1, 1)), (("di", 0), (0, 0, 0, 0), (3, 2, 1, 0)),
        ]:
            with self.subTest(point):
                due = [dict(zip(["an", "bo", "cy", "di"], numbers)) for numbers in (least, greatest)]
                self.assertEqual(lines_with(PAST, dict([point])), ("lines", *due))

    def test_of_several_points_where_a_line_is(self):
        self.assertEqual(lines_with(PAST, {"an": 1, "bo": 1}),
                         ("lines", {"an": 1, "bo": 1, "cy": 0, "di": 0}, {"an": 1, "bo": 1, "cy": 1, "di": 1}))
        self.assertEqual(lines_with(PAST, {"di": 1, "cy": 0}),
                         ("lines", {"an": 0, "bo": 0, "cy": 0, "di": 1}, {"an": 1, "bo": 1, "cy": 0, "di": 1}))
        for line in (BEGINNINGS, PRESENTS):
            self.assertEqual(lines_with(PAST, line), ("lines", line, line))

    def test_of_several_points_where_none_is(self):
        self.assertEqual(lines_with(PAST, {"an": 1, "bo": 2}), ("zigzag", ("an", 1), ("bo", 2), [5]))
        self.assertEqual(lines_with(PAST, {"an": 2, "cy": 0}), ("zigzag", ("cy", 0), ("an", 2), [4]))
        self.assertEqual(lines_with(PAST, {"an": 0, "cy": 1}), ("zigzag", ("an", 0), ("cy", 1), [0, 3]))
        self.check_zigzag(PAST, {"an": 0, "bo": 2, "di": 1, "cy": 1}, lines_with(PAST, {"an": 0, "bo": 2, "di": 1, "cy": 1}))

    def test_of_a_point_that_stands_in_no_line(self):
        self.assertEqual(lines_with(ROUND, {"an": 1}), ("zigzag", ("an", 1), ("an", 1), [0, 1]))
        for number in (0, 1):
            points = {"bo": number, "an": 1}
            self.check_zigzag(ROUND, points, lines_with(ROUND, points))
        past, one, _, _ = staircase(13, 10)
        self.check_zigzag(past, dict([one]), lines_with(past, dict([one])))

    def test_all_points_of_small_pasts(self):
        for past in small_pasts() + [ROUND]:
            lines = slowly_all_lines(past)
            ways = [[None, *range(end + 1)] for _, end in sorted(last_points(past).items())]
            for numbers in list(itertools.product(*ways))[::1 if len(past) == 2 else 3]:
                points = {hand: number for hand, number in zip(sorted(past), numbers) if number is not None}
                self.check(past, points, lines)

    def test_many_deeds(self):
        for past in [big_past(8, 40, 400), big_past(9, 3, 400), staircase(40, 3)[0], staircase(2, 66)[0]]:
            counted = {"lines": 0, "zigzag": 0}
            points = points_of(past)
            for some in [[point] for point in points[::3]] + list(zip(points, points[60:])):
                wanted = dict(some)
                told = lines_with(past, wanted)
                counted[told[0]] += 1
                if told[0] == "zigzag":
                    self.check_zigzag(past, wanted, told)
                    continue
                for line in told[1:]:
                    self.assertTrue(slowly_a_line(past, line))
                    self.assertTrue(all(line[hand] == wanted[hand] for hand in wanted))
                self.assertTrue(all(told[1][hand] <= told[2][hand] for hand in past))
            self.assertTrue(counted["lines"] and counted["zigzag"])

    def test_the_order_in_which_it_was_filled(self):
        for past in [PAST, ROUND, big_past(4, 9, 90), big_past(5, 40, 400)]:
            ends = last_points(past)
            for part in (1, 2, 3):
                points = {hand: ends[hand] // part for hand in list(past)[:7]}
                due = lines_with(past, points)
                for filled in refilled(past) + [copy.deepcopy(past)]:
                    for handed in refilled(points) + [points]:
                        self.assertEqual(lines_with(filled, handed), due)

    def test_what_are_no_points(self):
        bad = [{"an": 4}, {"an": -1}, {"bo": 3}, {"cy": 2}, {"an": True}, {"an": False}, {"an": 1.0}, {"an": "1"}, {"an": [1]},
               {"ed": 0}, {"An": 0}, {"": 0}, {0: "an"}, {("an", 0): 0}, {b"an": 0}, {None: 0}, {True: 1}, {"an": 0, "ed": 0},
               {"an": 0, 1: 1}, {"an": 0, "bo": None}, [("an", 0)], ("an", 0), ("an", 1), "an", {"an"}, ["an"], {"an": (0,)}]
        good = ("{}", "{'an': 0}")
        for thing in [thing for thing in things() if ascii(thing) not in good] + bad:
            with self.subTest(ascii(thing)):
                self.assertIs(raised(lines_with, PAST, thing), NoPoints)

    def test_what_is_no_past(self):
        for past in things() + BROKEN:
            for points in ({}, {"an": 0}, None, [NoEqual()], {"an": 9}):
                with self.subTest(ascii(past)):
                    self.assertIs(raised(lines_with, past, points), NoPast)


class TwoLinesTest(unittest.TestCase):
    def test_earlier_and_later(self):
        one = {"an": 3, "bo": 1, "cy": 1, "di": 0}
        other = {"an": 1, "bo": 1, "cy": 0, "di": 1}
        for first, second in ((one, other), (other, one)):
            self.assertEqual(earlier_of(PAST, first, second), {"an": 1, "bo": 1, "cy": 0, "di": 0})
            self.assertEqual(later_of(PAST, first, second), {"an": 3, "bo": 1, "cy": 1, "di": 1})
        self.assertEqual(earlier_of(PAST, one, one), one)
        self.assertEqual(later_of(PAST, one, one), one)
        self.assertEqual(earlier_of(PAST, BEGINNINGS, PRESENTS), BEGINNINGS)
        self.assertEqual(later_of(PAST, BEGINNINGS, PRESENTS), PRESENTS)

    def test_each_has_numbers_of_both(self):
        past = {"an": [("keep",)], "bo": [("keep",)]}
        self.assertEqual(earlier_of(past, {"an": 2, "bo": 0}, {"bo": 1, "an": 1}), {"an": 1, "bo": 0})
        self.assertEqual(later_of(past, {"an": 2, "bo": 0}, {"bo": 1, "an": 1}), {"an": 2, "bo": 1})

    def test_they_are_lines(self):
        for past in small_pasts()[::9] + [ROUND]:
            lines = slowly_all_lines(past)
            for one, other in itertools.product(lines, repeat=2):
                earlier, later = earlier_of(past, one, other), later_of(past, one, other)
                self.assertTrue(earlier in lines and later in lines, ascii((past, one, other)))
                for hand in past:
                    self.assertEqual([earlier[hand], later[hand]], sorted([one[hand], other[hand]]))


class LinesBetweenTest(unittest.TestCase):
    def test_all_of_a_past(self):
        told = lines_between(PAST, BEGINNINGS, PRESENTS)
        self.assertEqual([[line[hand] for hand in sorted(line)] for line in told], [
            [0, 0, 0, 0], [0, 0, 0, 1], [1, 0, 0, 0], [1, 0, 0, 1], [1, 1, 0, 0], [1, 1, 0, 1], [1, 1, 1, 0], [1, 1, 1, 1],
            [2, 1, 1, 0], [2, 1, 1, 1], [2, 2, 1, 0], [2, 2, 1, 1], [3, 1, 1, 0], [3, 1, 1, 1], [3, 2, 1, 0], [3, 2, 1, 1]])
        self.assertIs(type(told), list)
        self.assertTrue(all(type(line) is dict and set(line) == set(PAST) for line in told))

    def test_some_of_a_past(self):
        one, other = {"an": 1, "bo": 0, "cy": 0, "di": 1}, {"an": 2, "bo": 1, "cy": 1, "di": 1}
        told = lines_between(PAST, one, other)
        self.assertEqual([[line[hand] for hand in sorted(line)] for line in told],
                         [[1, 0, 0, 1], [1, 1, 0, 1], [1, 1, 1, 1], [2, 1, 1, 1]])

    def test_from_a_line_to_itself(self):
        for line in slowly_all_lines(PAST):
            self.assertEqual(lines_between(PAST, line, line), [line])

    def test_none_where_the_first_has_a_greater_number(self):
        self.assertEqual(lines_between(PAST, PRESENTS, BEGINNINGS), [])
        one, other = {"an": 0, "bo": 0, "cy": 0, "di": 1}, {"an": 3, "bo": 2, "cy": 1, "di": 0}
        self.assertEqual(lines_between(PAST, one, other), [])
        self.assertEqual(lines_between(PAST, other, one), [])
        many = kept_only([43, 43, 43])
        self.assertEqual(lines_between(many, {"a": 0, "b": 1, "c": 0}, {"a": 42, "b": 0, "c": 42}), [])

    def test_the_order_is_by_names(self):
        past = {"bo": [("keep",)], "cy": [], "an": []}
        told = lines_between(past, {"cy": 0, "bo": 0, "an": 0}, {"bo": 2, "an": 1, "cy": 1})
        self.assertEqual([(line["an"], line["bo"], line["cy"]) for line in told],
                         list(itertools.product(range(2), range(3), range(2))))
        past = {"an": [("keep",)] * 10, "bo": []}
        told = lines_between(past, {"an": 8, "bo": 0}, {"an": 11, "bo": 0})
        self.assertEqual([line["an"] for line in told], [8, 9, 10, 11])

    def test_small_pasts(self):
        for past in small_pasts()[::3] + [ROUND]:
            lines = slowly_all_lines(past)
            hands = sorted(past)
            for one, other in list(itertools.product(lines, repeat=2))[::1 + len(lines) ** 2 // 90]:
                due = [line for line in lines if all(one[hand] <= line[hand] <= other[hand] for hand in hands)]
                if len(due) <= 300:
                    self.assertEqual(lines_between(past, one, other), due, ascii((past, one, other)))
                else:
                    self.assertIs(raised(lines_between, past, one, other), TooMany)

    def test_three_hundred_are_told_and_more_are_too_many(self):
        for numbers in ([300], [3, 10, 10], [2, 150], [4, 75], [300, 2]):
            past = kept_only(numbers)
            ends = last_points(past)
            if len(numbers) == 2 and numbers[1] == 2:
                ends["b"] = 0
            told = lines_between(past, {hand: 0 for hand in past}, ends)
            self.assertEqual(len(told), 300)
            self.assertEqual(told, [dict(zip(sorted(past), row)) for row in
                                    itertools.product(*[range(ends[hand] + 1) for hand in sorted(past)])])
        for numbers in ([301], [7, 43], [2, 151], [3, 3, 34], [2] * 40, [12] * 30):
            past = {chr(97 + at // 26) + chr(97 + at % 26): [("keep",)] * (number - 2) for at, number in enumerate(numbers)}
            with self.subTest(numbers):
                self.assertIs(raised(lines_between, past, {hand: 0 for hand in past}, last_points(past)), TooMany)

    def test_many_points_and_few_lines(self):
        past = staircase(2, 66)[0]
        lines = lines_between(past, {hand: 0 for hand in past}, last_points(past))
        self.assertEqual(lines, [{"aa": 0, "ab": 0}, {"aa": 66, "ab": 66}, {"aa": 66, "ab": 67}, {"aa": 67, "ab": 66},
                                 {"aa": 67, "ab": 67}])
        past = big_past(9, 3, 400)
        lines = lines_between(past, {hand: 0 for hand in past}, last_points(past))
        self.assertEqual(len(lines), 166)
        rows = [[line[hand] for hand in sorted(past)] for line in lines]
        self.assertEqual(rows, sorted(rows))
        self.assertTrue(all(slowly_a_line(past, line) for line in lines))

    def test_lines_ahead_of_too_many(self):
        past = {**ROUND, "cy": [("keep",)] * 298}
        ends = last_points(past)
        self.assertIs(raised(lines_between, past, {hand: 0 for hand in past}, ends), TooMany)
        self.assertEqual(len(lines_between(past, {"an": 0, "bo": 0, "cy": 1}, {"an": 0, "bo": 0, "cy": 299})), 299)
        self.assertEqual(len(lines_between(past, {"an": 0, "bo": 0, "cy": 200}, {"an": 2, "bo": 1, "cy": 299})), 200)


class RefusalsTest(unittest.TestCase):
    CALLS = (earlier_of, later_of, lines_between)

    def test_what_is_no_past(self):
        for past in things() + BROKEN:
            for one, other in (({"an": 0}, {"an": 0}), (None, None), ({}, NoEqual())):
                for call in self.CALLS:
                    with self.subTest(ascii(past)):
                        self.assertIs(raised(call, past, one, other), NoPast)

    def test_what_is_no_line(self):
        bad = [{"an": 0, "bo": 0, "cy": 0}, {**BEGINNINGS, "ed": 0}, {**BEGINNINGS, "an": 4}, {**BEGINNINGS, "bo": -1},
               {**BEGINNINGS, "bo": True}, {**BEGINNINGS, "bo": 0.0}, {**BEGINNINGS, "bo": 1}, {**PRESENTS, "an": 1},
               {**PRESENTS, "cy": None}, list(BEGINNINGS.items()), PAST]
        for thing in things() + bad:
            for call in self.CALLS:
                for line in (BEGINNINGS, PRESENTS):
                    with self.subTest(ascii(thing)):
                        self.assertIs(raised(call, PAST, thing, line), NoLine)
                        self.assertIs(raised(call, PAST, line, thing), NoLine)
                        self.assertIs(raised(call, PAST, thing, thing), NoLine)

    def test_no_line_where_there_are_too_many(self):
        past = kept_only([50, 50])
        self.assertIs(raised(lines_between, past, {"a": 0, "b": 0}, {"a": 49, "b": 49}), TooMany)
        self.assertIs(raised(lines_between, past, {"a": 0, "b": 0}, {"a": 49, "b": 50}), NoLine)

    def test_a_refusal_tells_why(self):
        for call, args in ((earlier_of, (PAST, {}, {})), (lines_with, (PAST, [])),
                           (lines_between, (kept_only([301]), {"a": 0}, {"a": 300}))):
            with self.assertRaises(ValueError) as caught:
                call(*args)
            self.assertTrue(str(caught.exception))


class OnesOwnTest(unittest.TestCase):
    def calls(self, past):
        """All that is told here of the past, asked anew."""
        beginnings, presents = {hand: 0 for hand in past}, last_points(past)
        points = {min(past): 1}
        handed = [beginnings, presents, points]
        ahead = copy.deepcopy([past, handed, [list(thing) for thing in [past, *handed]]])
        told = [is_line(past, presents), lines_with(past, {}), lines_with(past, points), earlier_of(past, beginnings, presents),
                later_of(past, beginnings, presents), earlier_of(past, presents, presents), later_of(past, presents, presents),
                lines_between(past, beginnings, beginnings), lines_between(past, presents, presents)]
        raised(lines_with, past, [past]), raised(earlier_of, past, points, presents)
        self.assertEqual([past, handed, [list(thing) for thing in [past, *handed]]], ahead)
        parts = [id(part) for thing in told for part in dicts_and_lists(thing)]
        self.assertEqual(len(set(parts)), len(parts))
        self.assertFalse(set(parts) & {id(part) for thing in [past, *handed] for part in dicts_and_lists(thing)})
        return told

    def test_what_is_handed_in_stays_and_what_is_told_is_new(self):
        for past in [PAST, ROUND, {"an": []}, big_past(4, 9, 90)]:
            told = self.calls(past)
            due = copy.deepcopy(told)
            for part in [part for thing in told for part in dicts_and_lists(thing)]:
                part.clear()
            self.assertEqual(self.calls(past), due)

    def test_what_is_done_to_what_was_handed_in_changes_nothing_told(self):
        past, line, points = copy.deepcopy(PAST), dict(PRESENTS), {"an": 1}
        told = [lines_with(past, points), earlier_of(past, line, line), lines_between(past, line, line)]
        due = copy.deepcopy(told)
        past["an"].clear()
        line.clear()
        points.clear()
        self.assertEqual(told, due)

    def test_all_lines_told_are_unlike_dicts(self):
        told = lines_between(PAST, BEGINNINGS, PRESENTS)
        self.assertEqual(len({id(line) for line in told}), 16)
        told[0]["an"] = 9
        self.assertEqual(sum(line["an"] == 9 for line in told), 1)
        self.assertEqual(lines_between(PAST, BEGINNINGS, PRESENTS)[0], BEGINNINGS)

    def test_the_past_is_asked_anew(self):
        past = {"an": [("keep",), ("tell", 0, "bo")], "bo": []}
        line = {"an": 1, "bo": 1}
        self.assertIs(is_line(past, line), True)
        self.assertEqual(lines_with(past, line), ("lines", line, line))
        past["bo"].append(("hear", 0))
        self.assertIs(is_line(past, line), False)
        self.assertEqual(lines_with(past, line), ("zigzag", ("an", 1), ("bo", 1), [0]))


if __name__ == "__main__":
    unittest.main()
