"""The whole: lines and zigzags, falls and lines, what is needed, what is safe, and who keeps warily [4]."""

import copy
import itertools
import random
import unittest

from fallingback.falls import fall_line
from fallingback.lines import is_line, lines_with
from fallingback.needed import needed_by, needed_points, thinned_past
from fallingback.nets import Net
from fallingback.safe import must_keep, safe_line
from fallingback.warily import is_wary, numbers_of
from fallingback.zigzags import zigzag_between
from support import (big_past, done_by_chance, last_points, points_of, slowly_heard_of, slowly_left, slowly_row_left,
                     small_pasts, some_hands, stepwise_left, wary_pasts)

KEEP = ("keep",)


class LinesAndZigzagsTest(unittest.TestCase):
    def test_points_stand_together_where_each_two_do(self):
        counted = {True: 0, False: 0}
        for past in small_pasts()[::4]:
            led = {pair: zigzag_between(past, *pair) is not None for pair in itertools.product(points_of(past), repeat=2)}
            ways = [[None, *range(end + 1)] for _, end in sorted(last_points(past).items())]
            for numbers in itertools.product(*ways):
                points = [(hand, number) for hand, number in zip(sorted(past), numbers) if number is not None]
                due = not any(led[pair] for pair in itertools.product(points, repeat=2))
                self.assertIs(lines_with(past, dict(points))[0] == "lines", due, ascii((past, points)))
                counted[due] += 1
        self.assertTrue(min(counted.values()) > 300, counted)

    def test_many_deeds(self):
        past = big_past(9, 3, 400)
        points = points_of(past)
        for one, other in zip(points[::4], points[50:] + points[:50]):
            if one[0] != other[0]:
                led = [zigzag_between(past, *pair) is not None for pair in itertools.product([one, other], repeat=2)]
                self.assertIs(lines_with(past, dict([one, other]))[0] == "lines", not any(led))


class FallsTest(unittest.TestCase):
    def test_a_fall_of_several_is_the_earliest_of_each_alone(self):
        for past in small_pasts()[::3] + [big_past(8, 40, 400), big_past(9, 3, 400)]:
            alone = {hand: fall_line(past, [hand]) for hand in past}
            for fallen in some_hands(past)[::-1] if len(past) < 5 else [sorted(past), sorted(past)[:7]]:
                line = fall_line(past, fallen)
                self.assertEqual(line, {hand: min(alone[one][hand] for one in fallen) for hand in past})
                self.assertIs(is_line(past, line), True)

    def test_points_of_lines_that_several_share(self):
        past = {"an": [("tell", 0, "cy"), KEEP, ("tell", 1, "bo")], "bo": [KEEP, ("hear", 1), ("tell", 2, "cy")],
                "cy": [KEEP, ("hear", 2), KEEP, ("hear", 0)]}
        self.assertEqual(fall_line(past, ["bo"]), {"an": 2, "bo": 1, "cy": 1})
        self.assertEqual(fall_line(past, ["cy"]), {"an": 2, "bo": 2, "cy": 2})
        self.assertEqual(fall_line(past, ["an"]), {"an": 1, "bo": 1, "cy": 1})
        self.assertEqual(needed_points(past), [("an", 1), ("bo", 1), ("cy", 1), ("cy", 2)])


class Grown:
    """A past that goes on, beside the same one thinned; the deeds that stood at first are known."""

    def __init__(self, past):
        self.past = copy.deepcopy(past)
        self.thin = thinned_past(past)
        self.needed = needed_points(past)
        self.stood = {hand: len(row) for hand, row in past.items()}
        self.letters = 1000

    def lying(self):
        heard = [deed[1] for row in self.past.values() for deed in row if deed[0] == "hear"]
        return [(deed[1], deed[2]) for row in self.past.values() for deed in row if deed[0] == "tell" and deed[1] not in heard]

    def do(self, hand, deed):
        self.past[hand].append(deed)
        self.thin[hand].append(deed)

    def fall(self, fallen):
        """Both fall: told is the line of the past that was not thinned."""
        line, thin = fall_line(self.past, fallen), fall_line(self.thin, fallen)
        self.past = {hand: slowly_row_left(row, line[hand]) for hand, row in self.past.items()}
        self.thin = {hand: slowly_row_left(row, thin[hand]) for hand, row in self.thin.items()}
        self.stood = {hand: min(at, len(self.past[hand])) for hand, at in self.stood.items()}
        return line

    def go_on(self, chance):
        """One move of chance; of a fall the line is told, else an empty dict."""
        hands, lying, move = sorted(self.past), self.lying(), chance.random()
        if move < 0.2:
            return self.fall(chance.sample(hands, chance.randint(1, len(hands))))
        if move < 0.35:
            self.do(chance.choice(hands), KEEP)
        elif lying and move < 0.7:
            letter, hand = chance.choice(lying)
            self.do(hand, ("hear", letter))
        else:
            one, other = chance.sample(hands, 2)
            self.do(one, ("tell", self.letters, other))
            self.letters += 1
        return {}

    def without_what_was_left_out(self):
        """The past that was not thinned, without the keepings that stood at first and weren't needed."""
        rows = {hand: [] for hand in self.past}
        for hand, row in self.past.items():
            for at, deed in enumerate(row):
                number = row[:at + 1].count(KEEP)
                if deed != KEEP or at >= self.stood[hand] or (hand, number) in self.needed:
                    rows[hand].append(deed)
        return rows


class NeededTest(unittest.TestCase):
    def test_how_many_are_needed_at_most(self):
        for past in small_pasts() + [big_past(seed, 2 + seed, 400) for seed in range(38)]:
            self.assertLessEqual(len(needed_points(past)), len(past) * (len(past) + 1) // 2, ascii(past))

    def test_as_many_can_be_needed(self):
        for hands in (1, 2, 3, 5):
            # Each tells the next one a letter, behind which that one keeps as often as hands stand behind it.
            names = "abcde"[:hands]
            past = {name: [] for name in names}
            for at, name in enumerate(names):
                for one in range(at):
                    past[name] += [KEEP, ("hear", 10 * one + at)]
                past[name].append(KEEP)
                past[name] += [("tell", 10 * at + other, names[other]) for other in range(at + 1, hands)]
            self.assertEqual(len(needed_points(past)), hands * (hands + 1) // 2, ascii(past))

    def test_each_is_needed_by_a_fall_that_can_come_at_once(self):
        for past in small_pasts()[::3]:
            for hand, number in needed_points(past):
                fallen = needed_by(past, (hand, number))
                self.assertTrue(fallen)
                self.assertTrue(all(fall_line(past, [one])[hand] == number for one in fallen))

    def test_no_other_is_needed_whatever_comes(self):
        left_out = falls = 0
        for seed in range(400):
            chance = random.Random(seed)
            hands = ["an", "bo", "cy", "di"][:2 + seed % 3]
            base = done_by_chance(Net(hands), seed, hands, 10 + seed % 30, falls=0.05).past()
            grown = Grown(base)
            left_out += sum(len(base[hand]) - len(grown.thin[hand]) for hand in base)
            for _ in range(25):
                line = grown.go_on(chance)
                falls += bool(line)
                for hand, number in line.items():
                    if 0 < number <= grown.past[hand][:grown.stood[hand]].count(KEEP):
                        self.assertIn((hand, number), grown.needed)
                self.assertEqual(grown.thin, grown.without_what_was_left_out())
        self.assertTrue(left_out > 500 and falls > 500, (left_out, falls))

    def test_a_beginning_that_is_not_needed_is_never_gone_back_to(self):
        for seed in range(200):
            chance = random.Random(seed)
            hands = ["an", "bo", "cy"]
            grown = Grown(done_by_chance(Net(hands), seed, hands, 30).past())
            for _ in range(15):
                line = grown.go_on(chance)
                for hand in line:
                    self.assertTrue(line[hand] > 0 or (hand, 0) in grown.needed, ascii((grown.past, line)))


def deeds_ahead(past, line):
    """The deeds ahead of the line's points."""
    return {hand: slowly_row_left(row, line[hand]) for hand, row in past.items()}


def comings(past, moves):
    """All pasts that come from this one by so many moves, falls of any hands among them."""
    if moves == 0:
        return [past]
    told = {deed[1]: deed[2] for row in past.values() for deed in row if deed[0] == "tell"}
    heard = [deed[1] for row in past.values() for deed in row if deed[0] == "hear"]
    deeds = [(hand, KEEP) for hand in past] + [(told[letter], ("hear", letter)) for letter in told if letter not in heard]
    deeds += [(one, ("tell", 1000 + moves, other)) for one in past for other in past if one != other]
    found = [{**past, hand: past[hand] + [deed]} for hand, deed in deeds]
    found += [deeds_ahead(past, stepwise_left(past, fallen)) for fallen in some_hands(past)]
    return [coming for next_one in found for coming in comings(next_one, moves - 1)]


class SafeTest(unittest.TestCase):
    def test_what_is_safe_is_never_lost_whatever_comes(self):
        counted = 0
        for past in [past for past in small_pasts() if len(past) < 4 and sum(map(len, past.values())) < 12][::41]:
            safe = deeds_ahead(past, safe_line(past))
            for coming in comings(past, 3 if len(past) < 3 else 2):
                self.assertTrue(all(coming[hand][:len(safe[hand])] == safe[hand] for hand in past), ascii((past, coming)))
                counted += any(safe.values())
        self.assertGreater(counted, 5000)

    def test_it_is_never_lost_in_long_lives(self):
        counted = 0
        for seed in range(200):
            chance = random.Random(seed)
            hands = ["an", "bo", "cy", "di"][:2 + seed % 3]
            grown = Grown(done_by_chance(Net(hands), seed, hands, 10 + seed % 30, falls=0.05).past())
            for _ in range(25):
                safe = deeds_ahead(grown.past, safe_line(grown.past))
                grown.go_on(chance)
                more = deeds_ahead(grown.past, safe_line(grown.past))
                self.assertTrue(all(more[hand][:len(safe[hand])] == safe[hand] for hand in hands))
                counted += sum(map(len, safe.values()))
        self.assertGreater(counted, 5000)

    def test_what_is_not_would_be_lost_did_all_fall_now(self):
        for past in small_pasts()[::3]:
            line = safe_line(past)
            left = deeds_ahead(past, slowly_left(past, sorted(past)))
            for hand, number in points_of(past):
                if number < line[hand]:
                    self.assertGreaterEqual(len(left[hand]), len(slowly_row_left(past[hand], number + 1)))
                else:
                    self.assertLessEqual(len(left[hand]), len(slowly_row_left(past[hand], number)))

    def test_all_of_those_must_keep_and_no_others(self):
        for past in small_pasts()[::5]:
            for hand, number in points_of(past):
                if number < last_points(past)[hand]:
                    told = must_keep(past, (hand, number))
                    for some in [[]] + some_hands(past):
                        kept = {one: row + [KEEP] * (one in some) for one, row in past.items()}
                        due = safe_line(kept)[hand] > number
                        self.assertIs(due, set(told) <= set(some), ascii((past, hand, number, some)))


class WarilyTest(unittest.TestCase):
    def test_every_point_stands_in_a_line_the_least_of_which_its_hand_knows(self):
        counted = 0
        for past in wary_pasts() + [past for past in small_pasts()[::2] if is_wary(past)]:
            for point in points_of(past):
                told = lines_with(past, dict([point]))
                self.assertEqual(told[0], "lines")
                self.assertEqual(numbers_of(past, point), told[1])
                counted += 1
        self.assertGreater(counted, 2000)

    def test_what_a_hand_did_not_hear_of_changes_no_number(self):
        for past in small_pasts()[::3] + wary_pasts()[::2]:
            for point in points_of(past):
                heard_of = slowly_heard_of(past, point)
                known = {hand: [deed for at, deed in enumerate(row) if (hand, at) in heard_of] for hand, row in past.items()}
                self.assertEqual(numbers_of(known, point), numbers_of(past, point), ascii((past, point)))

    def test_a_point_is_lost_just_where_it_heard_of_the_last_part_of_a_hand_that_falls(self):
        for past in wary_pasts():
            ends = last_points(past)
            for fallen in some_hands(past):
                line = fall_line(past, fallen)
                for hand, number in points_of(past):
                    heard = numbers_of(past, (hand, number))
                    self.assertIs(number > line[hand], any(heard[one] == ends[one] for one in fallen), ascii((past, fallen)))


if __name__ == "__main__":
    unittest.main()
