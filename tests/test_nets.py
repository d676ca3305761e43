"""A net that lives [7, 8], also a wary one [20]."""

import copy
import inspect
import itertools
import unittest

from fallingback.errors import Alike, NoHand, NoHands, NoLetter
from fallingback.falls import deeds_lost, fall_line, letters_after
from fallingback.needed import useless_points
from fallingback.nets import Net
from fallingback.pasts import is_past, letters_lying, presents
from support import (NoEqual, chance_moves, dicts_and_lists, done_by_chance, last_points, raised, slowly_row_left, slowly_wary,
                     some_hands, stepwise_left, things)

KEEP = ("keep",)


def state(net):
    """All that is told of a net that no deed is done on."""
    return net.past(), net.lying()


class SlowNet:
    """A net that keeps its own books: which letters lie, for whom, and what is told since the last point."""

    def __init__(self, hands, wary):
        self.rows = {hand: [] for hand in hands}
        self.letters = 0
        self.waiting = {}
        self.wary = wary

    def tell(self, one, other):
        self.rows[one].append(("tell", self.letters, other))
        self.waiting[self.letters] = other
        self.letters += 1
        return self.letters - 1

    def hear(self, letter):
        hand = self.waiting.pop(letter)
        row = self.rows[hand]
        since = row[max([0] + [at for at, deed in enumerate(row) if deed == KEEP]):]
        if self.wary and any(deed[0] == "tell" for deed in since):
            row.append(KEEP)
        row.append(("hear", letter))

    def keep(self, hand):
        self.rows[hand].append(KEEP)
        return self.rows[hand].count(KEEP)

    def fall(self, hands):
        line = stepwise_left(self.rows, hands)
        left = {hand: slowly_row_left(row, line[hand]) for hand, row in self.rows.items()}
        lost = [deed for hand, row in self.rows.items() for deed in row[len(left[hand]):]]
        hearers = {deed[1]: deed[2] for row in self.rows.values() for deed in row if deed[0] == "tell"}
        for deed in lost:
            if deed[0] == "hear":
                self.waiting[deed[1]] = hearers[deed[1]]
        for deed in lost:
            if deed[0] == "tell":
                self.waiting.pop(deed[1])
        self.rows = left
        return line


class MadeTest(unittest.TestCase):
    def test_at_first_all_rows_are_empty(self):
        for hands in (["an"], ["an", "bo"], ["bo", "an"], ["keep", "tell", "hear"], ["abcdefgh", "a"]):
            for net in (Net(hands), Net(hands, wary=False), Net(hands, wary=True)):
                self.assertEqual(state(net), ({hand: [] for hand in hands}, []))

    def test_forty_hands(self):
        names = [one + other for one in "abcd" for other in "abcdefghij"]
        self.assertEqual(Net(names).past(), {name: [] for name in names})
        self.assertIs(raised(Net, names + ["z"]), NoHands)

    def test_what_are_no_hands(self):
        bad = [[], ["an", "an"], ["an", "bo", "an"], ["An"], [""], ["an", ""], ["abcdefghi"], ["an", "a b"], ["an", None], ["an", 1],
               ["an", ["bo"]], [["an"]], [("an",)], ("an",), ("an", "bo"), "an", "", {"an": []}, {"an"}, b"an", [b"an"],
               ["an", NoEqual()], [NoEqual()], ["a" + one + other for one in "abcdefg" for other in "abcdef"][:41],
               ["an"] * 4000, None, 1]
        for hands in [thing for thing in things() if ascii(thing) != "['an']"] + bad:
            with self.subTest(ascii(hands)):
                self.assertIs(raised(Net, hands), NoHands)
                with self.assertRaises(NoHands):
                    Net(hands, wary=True)

    def test_wary_is_handed_by_its_name(self):
        parameter = inspect.signature(Net).parameters["wary"]
        self.assertEqual((parameter.kind, parameter.default), (inspect.Parameter.KEYWORD_ONLY, False))


class DeedsTest(unittest.TestCase):
    def test_letters_are_numbered(self):
        net = Net(["an", "bo", "cy"])
        self.assertEqual([net.tell("an", "bo"), net.tell("an", "bo"), net.tell("cy", "an"), net.tell("bo", "cy")], [0, 1, 2, 3])
        self.assertEqual(state(net), ({"an": [("tell", 0, "bo"), ("tell", 1, "bo")], "bo": [("tell", 3, "cy")],
                                       "cy": [("tell", 2, "an")]}, [0, 1, 2, 3]))

    def test_letters_are_numbered_on_when_heard(self):
        net = Net(["an", "bo"])
        for letter in range(5):
            self.assertEqual(net.tell("an", "bo"), letter)
            self.assertIsNone(net.hear(letter))
        self.assertEqual(net.tell("bo", "an"), 5)

    def test_points_are_numbered(self):
        net = Net(["an", "bo"])
        self.assertEqual([net.keep("an"), net.keep("an"), net.keep("bo"), net.keep("an")], [1, 2, 1, 3])
        self.assertEqual(net.past(), {"an": [KEEP] * 3, "bo": [KEEP]})

    def test_letters_are_heard_in_any_order(self):
        for order in itertools.permutations(range(4)):
            net = Net(["an", "bo", "cy"])
            for one, other in (("an", "bo"), ("an", "bo"), ("cy", "bo"), ("bo", "an")):
                net.tell(one, other)
            for letter in order:
                net.hear(letter)
            self.assertEqual(net.past()["bo"], [("tell", 3, "an")] + [("hear", letter) for letter in order if letter < 3])
            self.assertEqual(net.past()["an"], [("tell", 0, "bo"), ("tell", 1, "bo"), ("hear", 3)])
            self.assertEqual(net.lying(), [])

    def test_letters_that_lie(self):
        net = Net(["an", "bo"])
        for _ in range(12):
            net.tell("an", "bo")
        for letter in (10, 0, 5):
            net.hear(letter)
        self.assertEqual(net.lying(), [1, 2, 3, 4, 6, 7, 8, 9, 11])

    def test_a_net_that_is_not_wary_keeps_nothing_by_itself(self):
        for net in (Net(["an", "bo"]), Net(["an", "bo"], wary=False)):
            net.tell("an", "bo"), net.tell("bo", "an"), net.hear(0), net.hear(1)
            self.assertEqual(net.past(), {"an": [("tell", 0, "bo"), ("hear", 1)], "bo": [("tell", 1, "an"), ("hear", 0)]})


class RefusalsTest(unittest.TestCase):
    def nets(self):
        """Nets of an, bo and cy: at first, behind some deeds, behind a fall, wary."""
        for wary in (False, True):
            yield Net(["an", "bo", "cy"], wary=wary)
            net = Net(["an", "bo", "cy"], wary=wary)
            net.tell("an", "bo"), net.keep("an"), net.tell("an", "cy"), net.tell("bo", "an"), net.hear(0)
            yield net
            net = done_by_chance(Net(["an", "bo", "cy"], wary=wary), 4, ["an", "bo", "cy"], 30)
            net.fall(["bo"])
            yield net

    def refused(self, net, kind, call, *args):
        ahead = copy.deepcopy(state(net))
        with self.subTest(call.__name__, args=ascii(args)):
            self.assertIs(raised(call, *args), kind)
            self.assertEqual(state(net), ahead)

    def test_what_is_no_hand(self):
        for net in self.nets():
            for thing in things() + ["di", "", "anan", ["an"], ("an",), {"an": 0}, 0, b"an", NoEqual(), net]:
                self.refused(net, NoHand, net.tell, thing, "an")
                self.refused(net, NoHand, net.tell, "an", thing)
                self.refused(net, NoHand, net.tell, thing, thing)
                self.refused(net, NoHand, net.keep, thing)

    def test_alike(self):
        for net in self.nets():
            for hand in ("an", "bo", "cy"):
                self.refused(net, Alike, net.tell, hand, hand)
            self.refused(net, NoHand, net.tell, "di", "di")

    def test_what_lies_not(self):
        for net in self.nets():
            lying = net.lying()
            bad = [letter for letter in range(-2, 40) if letter not in lying] + [10 ** 9, "0", [0], (0,), {0: 0}, ("hear", 0), net]
            for thing in [thing for thing in things() if type(thing) is not int] + bad:
                self.refused(net, NoLetter, net.hear, thing)

    def test_truths_and_fractions_are_no_letters(self):
        net = Net(["an", "bo"])
        net.tell("an", "bo"), net.tell("an", "bo")
        for thing in (False, True, 0.0, 1.0, 0j, "0", "1"):
            self.refused(net, NoLetter, net.hear, thing)
        net.hear(1)
        self.assertEqual(net.lying(), [0])

    def test_a_letter_is_heard_once(self):
        net = Net(["an", "bo"])
        net.tell("an", "bo")
        net.hear(0)
        self.refused(net, NoLetter, net.hear, 0)

    def test_what_are_no_hands_to_fall(self):
        bad = [[], ["an", "an"], ["di"], ["an", "di"], ("an",), "an", ["an", None], [["an"]], ["an", ["bo"]], {"an": 0}, {"an"},
               ["an", "bo", "cy", "an"], [NoEqual()], ["an", NoEqual()], b"an", None, ["an", 0], ["An"], ["an"] * 400]
        for net in self.nets():
            for thing in [thing for thing in things() if ascii(thing) != "['an']"] + bad:
                self.refused(net, NoHands, net.fall, thing)

    def test_behind_refusals_all_goes_on_as_ahead(self):
        net = Net(["an", "bo"], wary=True)
        net.tell("an", "bo")
        for call, args in ((net.tell, ("an", "an")), (net.tell, ("an", "cy")), (net.keep, ("cy",)), (net.hear, (7,)),
                           (net.fall, ([],)), (net.hear, (True,))):
            self.refused(net, raised(call, *args), call, *args)
        self.assertEqual([net.tell("an", "bo"), net.keep("an"), net.keep("bo"), net.hear(1)], [1, 1, 1, None])

    def test_a_refusal_tells_why(self):
        net = Net(["an"])
        for call, args in ((Net, ([],)), (net.tell, ("an", "an")), (net.tell, ("an", "bo")), (net.hear, (0,)), (net.fall, ([],))):
            with self.assertRaises(ValueError) as caught:
                call(*args)
            self.assertTrue(str(caught.exception))


class FallTest(unittest.TestCase):
    def lively(self):
        """A net behind some deeds: letters 3 and 5 lie."""
        net = Net(["an", "bo", "cy", "di"])
        net.tell("an", "bo"), net.keep("an"), net.hear(0)
        net.tell("bo", "cy"), net.keep("bo"), net.hear(1)
        net.tell("cy", "an"), net.tell("cy", "bo"), net.hear(2)
        net.tell("an", "bo"), net.keep("an"), net.hear(4), net.tell("an", "cy")
        return net

    def test_the_net_ahead_of_all_falls(self):
        self.assertEqual(state(self.lively()), ({
            "an": [("tell", 0, "bo"), KEEP, ("hear", 2), ("tell", 4, "bo"), KEEP, ("tell", 5, "cy")],
            "bo": [("hear", 0), ("tell", 1, "cy"), KEEP, ("hear", 4)],
            "cy": [("hear", 1), ("tell", 2, "an"), ("tell", 3, "bo")], "di": []}, [3, 5]))

    def test_a_letter_that_lay_is_gone(self):
        net = self.lively()
        self.assertEqual(net.fall(["an"]), {"an": 2, "bo": 2, "cy": 1, "di": 1})
        self.assertEqual(net.past()["an"], [("tell", 0, "bo"), KEEP, ("hear", 2), ("tell", 4, "bo"), KEEP])
        self.assertEqual({hand: net.past()[hand] for hand in ("bo", "cy", "di")},
                         {hand: self.lively().past()[hand] for hand in ("bo", "cy", "di")})
        self.assertEqual(net.lying(), [3])
        self.assertIs(raised(net.hear, 5), NoLetter)

    def test_a_letter_lies_again_and_others_lie_on(self):
        net = self.lively()
        self.assertEqual(net.fall(["bo"]), {"an": 3, "bo": 1, "cy": 1, "di": 1})
        self.assertEqual(net.past()["bo"], [("hear", 0), ("tell", 1, "cy"), KEEP])
        self.assertEqual(net.lying(), [3, 4, 5])
        self.assertIsNone(net.hear(4))
        self.assertEqual(net.past()["bo"][-1], ("hear", 4))
        self.assertEqual(net.lying(), [3, 5])

    def test_others_go_back_too(self):
        net = self.lively()
        self.assertEqual(net.fall(["cy"]), {"an": 1, "bo": 1, "cy": 0, "di": 1})
        self.assertEqual(state(net), ({"an": [("tell", 0, "bo"), KEEP], "bo": [("hear", 0), ("tell", 1, "cy"), KEEP],
                                       "cy": [], "di": []}, [1]))
        self.assertEqual([net.tell("cy", "an"), net.tell("an", "cy")], [6, 7])
        self.assertEqual([net.keep("an"), net.keep("cy")], [2, 1])

    def test_several_hands_fall(self):
        for fallen in (["an", "bo"], ["bo", "an"]):
            net = self.lively()
            self.assertEqual(net.fall(fallen), {"an": 2, "bo": 1, "cy": 1, "di": 1})
            self.assertEqual(net.lying(), [3, 4])
        net = self.lively()
        self.assertEqual(net.fall(["di", "cy", "bo", "an"]), {"an": 1, "bo": 1, "cy": 0, "di": 0})
        self.assertEqual(net.fall(["an"]), {"an": 1, "bo": 2, "cy": 1, "di": 1})

    def test_a_keeping_that_is_the_point_stays(self):
        net = Net(["an"])
        net.keep("an"), net.keep("an")
        self.assertEqual(net.fall(["an"]), {"an": 2})
        self.assertEqual(net.past(), {"an": [KEEP, KEEP]})
        self.assertEqual(net.fall(["an"]), {"an": 2})
        self.assertEqual(net.keep("an"), 3)

    def test_a_fall_to_the_beginning(self):
        net = Net(["an", "bo"])
        net.tell("an", "bo")
        self.assertEqual(net.fall(["an"]), {"an": 0, "bo": 1})
        self.assertEqual(state(net), ({"an": [], "bo": []}, []))
        self.assertEqual(net.fall(["an"]), {"an": 0, "bo": 1})
        self.assertEqual(net.tell("an", "bo"), 1)

    def test_letters_are_numbered_on_behind_falls(self):
        net = Net(["an", "bo"])
        for letter in range(30):
            self.assertEqual(net.tell(*(["an", "bo"] if letter & 1 else ["bo", "an"])), letter)
            if letter & 2:
                net.fall(["an", "bo"])
                self.assertEqual(net.lying(), [])

    def test_the_fall_is_that_of_the_past_it_had(self):
        for seed in range(60):
            hands = ["an", "bo", "cy", "di"][:2 + seed % 3]
            net = done_by_chance(Net(hands, wary=seed % 4 == 0), seed, hands, 40)
            past, lay = net.past(), net.lying()
            fallen = some_hands(hands)[seed % (2 ** len(hands) - 1)]
            line = net.fall(list(fallen))
            self.assertEqual(line, fall_line(past, fallen))
            lost = deeds_lost(past, fallen)
            self.assertEqual({hand: len(past[hand]) - len(row) for hand, row in net.past().items()}, lost)
            gone, again = letters_after(past, fallen)
            self.assertEqual(net.lying(), sorted((set(lay) | set(again)) - set(gone)))
            self.assertTrue(all(past[hand][:len(row)] == row for hand, row in net.past().items()))

    def test_falls_one_behind_the_other(self):
        for seed in range(60):
            hands = ["an", "bo", "cy", "di"][:2 + seed % 3]
            for fallen in some_hands(hands):
                at_once = done_by_chance(Net(hands), seed, hands, 30)
                at_once.fall(fallen)
                for order in itertools.permutations(fallen):
                    net = done_by_chance(Net(hands), seed, hands, 30)
                    for hand in order:
                        net.fall([hand])
                    self.assertEqual(state(net), state(at_once))


class LivedTest(unittest.TestCase):
    def test_against_a_slow_net(self):
        counted = {"fall": 0, "hear": 0}
        for seed in range(120):
            hands = ["bo", "an", "di", "cy", "ed"][:1 + seed % 5]
            wary = seed % 2 == 1
            net, slow = Net(hands, wary=wary), SlowNet(hands, wary)
            for word, args in chance_moves(net, seed, hands, 50):
                told = getattr(net, word)(*copy.deepcopy(args))
                self.assertEqual(told, getattr(slow, word)(*args))
                self.assertEqual(state(net), (slow.rows, sorted(slow.waiting)))
                counted[word] = counted.get(word, 0) + 1
            self.assertIs(is_past(net.past()), True)
            self.assertEqual(net.lying(), letters_lying(net.past()))
        self.assertTrue(min(counted.values()) > 300, counted)

    def test_many_deeds(self):
        names = [one + other for one in "abcd" for other in "abcdefghij"]
        for wary in (False, True):
            net, slow = Net(names, wary=wary), SlowNet(names, wary)
            for word, args in chance_moves(net, 7, names, 350, falls=0.01):
                self.assertEqual(getattr(net, word)(*args), getattr(slow, word)(*args))
            self.assertEqual(state(net), (slow.rows, sorted(slow.waiting)))

    def test_kinds(self):
        net = Net(["an", "bo"])
        self.assertEqual([type(net.tell("an", "bo")), type(net.keep("an")), type(net.hear(0))], [int, int, type(None)])
        self.assertEqual([type(net.fall(["an"])), type(net.past()), type(net.lying())], [dict, dict, list])
        self.assertTrue(all(type(row) is list and all(type(deed) is tuple for deed in row) for row in net.past().values()))


class WaryTest(unittest.TestCase):
    def wary(self):
        return Net(["an", "bo", "cy"], wary=True)

    def test_a_hand_that_has_told_keeps_ahead_of_its_hearing(self):
        net = self.wary()
        net.tell("an", "bo"), net.tell("bo", "an"), net.hear(0)
        self.assertEqual(net.past(), {"an": [("tell", 0, "bo")], "bo": [("tell", 1, "an"), KEEP, ("hear", 0)], "cy": []})
        net.hear(1)
        self.assertEqual(net.past()["an"], [("tell", 0, "bo"), KEEP, ("hear", 1)])
        self.assertEqual(presents(net.past()), {"an": 2, "bo": 2, "cy": 1})

    def test_a_hand_that_has_not_told_keeps_nothing(self):
        net = self.wary()
        net.tell("an", "bo"), net.tell("an", "bo"), net.hear(0), net.hear(1)
        self.assertEqual(net.past(), {"an": [("tell", 0, "bo"), ("tell", 1, "bo")], "bo": [("hear", 0), ("hear", 1)], "cy": []})

    def test_a_hand_that_has_kept_since_keeps_nothing(self):
        net = self.wary()
        net.tell("an", "bo"), net.tell("bo", "an"), net.keep("bo"), net.hear(0)
        self.assertEqual(net.past()["bo"], [("tell", 1, "an"), KEEP, ("hear", 0)])

    def test_one_keeping_will_do_for_several_hearings(self):
        net = self.wary()
        net.tell("an", "bo"), net.tell("an", "bo"), net.tell("an", "bo"), net.tell("bo", "cy")
        net.hear(2), net.hear(0)
        self.assertEqual(net.past()["bo"], [("tell", 3, "cy"), KEEP, ("hear", 2), ("hear", 0)])
        net.tell("bo", "cy"), net.hear(1)
        self.assertEqual(net.past()["bo"][2:], [("hear", 2), ("hear", 0), ("tell", 4, "cy"), KEEP, ("hear", 1)])

    def test_its_own_keepings_are_numbered_too(self):
        net = self.wary()
        net.tell("an", "bo"), net.tell("bo", "an"), net.hear(0)
        self.assertEqual([net.keep("bo"), net.keep("an")], [2, 1])

    def test_a_hearing_that_is_refused_keeps_nothing(self):
        net = self.wary()
        net.tell("an", "bo")
        for thing in (1, None, True, False, 0.0, [0]):
            self.assertIs(raised(net.hear, thing), NoLetter)
        self.assertEqual(net.past()["an"], [("tell", 0, "bo")])

    def test_behind_a_fall(self):
        net = self.wary()
        net.tell("cy", "an"), net.tell("cy", "bo"), net.keep("an"), net.tell("an", "cy"), net.tell("bo", "cy")
        self.assertEqual(net.fall(["an"]), {"an": 1, "bo": 1, "cy": 1})
        net.hear(0), net.hear(1)
        self.assertEqual(net.past()["an"], [KEEP, ("hear", 0)])
        self.assertEqual(net.past()["bo"], [("tell", 3, "cy"), KEEP, ("hear", 1)])

    def test_its_past_is_wary_always(self):
        for seed in range(60):
            hands = ["an", "bo", "cy", "di"][:2 + seed % 3]
            net = Net(hands, wary=True)
            for word, args in chance_moves(net, seed, hands, 40):
                getattr(net, word)(*args)
                self.assertTrue(slowly_wary(net.past()))
            self.assertEqual(useless_points(net.past()), [])

    def test_other_nets_are_not_always(self):
        pasts = [done_by_chance(Net(["an", "bo"]), seed, ["an", "bo"], 40).past() for seed in range(9)]
        self.assertFalse(all(slowly_wary(past) for past in pasts))
        self.assertTrue(any(useless_points(past) for past in pasts))


class OnesOwnTest(unittest.TestCase):
    def test_what_is_told_is_the_askers_own(self):
        net = done_by_chance(Net(["an", "bo", "cy"]), 3, ["an", "bo", "cy"], 40)
        ahead = copy.deepcopy(state(net))
        for _ in range(2):
            parts = dicts_and_lists(list(state(net)))
            self.assertEqual(len({id(part) for part in parts}), len(parts))
            for part in parts:
                part.clear()
            self.assertEqual(state(net), ahead)
        past = net.past()
        past["an"].append(("keep",))
        past["zz"] = []
        net.lying().append(999)
        self.assertEqual(state(net), ahead)
        self.assertEqual(net.keep("an"), last_points(ahead[0])["an"])

    def test_the_lines_told_are_the_askers_own(self):
        net = done_by_chance(Net(["an", "bo", "cy"]), 3, ["an", "bo", "cy"], 40)
        line = net.fall(["an"])
        ahead = copy.deepcopy(state(net))
        line.clear()
        line["an"] = 0
        self.assertEqual(state(net), ahead)
        net.fall(["bo"])

    def test_what_was_told_stays_when_the_net_lives_on(self):
        net = Net(["an", "bo"])
        net.tell("an", "bo")
        told = state(net)
        net.keep("an"), net.hear(0), net.tell("bo", "an"), net.fall(["an", "bo"])
        self.assertEqual(told, ({"an": [("tell", 0, "bo")], "bo": []}, [0]))

    def test_what_was_handed_in_stays_and_is_not_kept(self):
        hands = ["bo", "an"]
        net = Net(hands)
        self.assertEqual(hands, ["bo", "an"])
        hands.append("cy")
        self.assertIs(raised(net.keep, "cy"), NoHand)
        hands.clear()
        self.assertEqual(net.past(), {"an": [], "bo": []})
        fallen = ["bo", "an"]
        net.fall(fallen)
        self.assertEqual(fallen, ["bo", "an"])
        fallen.clear()
        self.assertEqual(net.fall(["an"]), {"an": 0, "bo": 1})

    def test_nets_share_nothing(self):
        one, other = Net(["an", "bo"]), Net(["an", "bo"])
        one.tell("an", "bo"), one.keep("bo")
        self.assertEqual(state(other), ({"an": [], "bo": []}, []))
        self.assertEqual(other.tell("bo", "an"), 0)


if __name__ == "__main__":
    unittest.main()
