"""Point 15: watchers."""

import random
import unittest

from helper import NO_WORDS, ends_by_signs, refusal, signs_in, some_machine, told, watched_door
from sightbook.machines import Machine
from sightbook.watchers import Watcher
from sightbook.watching import possible, verdict


def one_sign(faults):
    return Machine(2, [0], [(0, "a", 1), (1, "b", 0)], {"a": "x", "b": "x"}, faults)


class Watching(unittest.TestCase):
    def hold(self, watcher, machine, sights):
        """Holds all that the watcher tells against the sights that it saw."""
        ends = ends_by_signs(machine, sights)
        self.assertEqual(watcher.sights(), sights)
        self.assertEqual(watcher.rooms(), sorted({room for room, fault in ends}))
        self.assertEqual(watcher.rooms(), possible(machine, sights))
        self.assertEqual(watcher.verdict(), verdict(machine, sights))

    def see_all(self, watcher, signs):
        for sign in signs:
            self.assertIsNone(watcher.see(sign))

    def need_refused(self, watcher, sign, due):
        """The sign is refused, and all is told behind it as ahead of it."""
        before = (watcher.sights(), watcher.rooms(), watcher.verdict())
        self.assertEqual(told(refusal(watcher.see, sign)), due)
        self.assertEqual((watcher.sights(), watcher.rooms(), watcher.verdict()), before)

    def need_no_sight(self, watcher, sign):
        self.need_refused(watcher, sign, ("NoSight", {"sign": sign}))

    def need_too_many(self, watcher, sign):
        self.need_refused(watcher, sign, ("TooGreat", {"number": 41, "most": 40}))


class Examples(Watching):
    def test_nothing_seen(self):
        watcher = Watcher(watched_door())
        self.assertEqual((watcher.sights(), watcher.rooms(), watcher.verdict()), ([], [0, 1], "clear"))

    def test_sign_after_sign(self):
        watcher = Watcher(watched_door())
        watcher.see("sound")
        self.assertEqual((watcher.sights(), watcher.rooms(), watcher.verdict()), (["sound"], [0, 1, 2, 3], "maybe"))
        watcher.see("crash")
        self.assertEqual((watcher.sights(), watcher.rooms(), watcher.verdict()), (["sound", "crash"], [0, 1], "sure"))

    def test_a_sign_of_no_deed(self):
        watcher = Watcher(watched_door())
        for sign in ["ring", "knock", "walk", "none", "soun", "sounds"]:
            self.need_no_sight(watcher, sign)
        self.see_all(watcher, ["sound"])
        for sign in ["ring", "none"]:
            self.need_no_sight(watcher, sign)
        self.hold(watcher, watched_door(), ["sound"])

    def test_a_sign_of_a_deed_that_no_move_has(self):
        watcher = Watcher(Machine(1, [0], [(0, "a", 0)], {"a": "x", "b": "y"}, []))
        self.need_no_sight(watcher, "y")
        self.see_all(watcher, ["x", "x"])

    def test_a_sign_that_cannot_come_now(self):
        watcher = Watcher(watched_door())
        self.need_no_sight(watcher, "crash")
        self.see_all(watcher, ["sound", "crash"])
        self.need_no_sight(watcher, "crash")
        self.see_all(watcher, ["sound"])
        self.hold(watcher, watched_door(), ["sound", "crash", "sound"])

    def test_no_starts(self):
        watcher = Watcher(Machine(1, [], [(0, "a", 0)], {"a": "x"}, ["a"]))
        self.assertEqual((watcher.sights(), watcher.rooms(), watcher.verdict()), ([], [], "never"))
        for sign in ["x", "y", ""]:
            self.need_no_sight(watcher, sign)

    def test_no_moves(self):
        watcher = Watcher(Machine(3, [2, 0], [], {"a": "x"}, ["a"]))
        self.assertEqual((watcher.sights(), watcher.rooms(), watcher.verdict()), ([], [0, 2], "clear"))
        self.need_no_sight(watcher, "x")

    def test_texts_that_are_no_words(self):
        watcher = Watcher(watched_door())
        for seen in [[], ["sound"]]:
            self.see_all(watcher, seen)
            for text in NO_WORDS:
                self.need_no_sight(watcher, text)

    def test_the_kinds_told(self):
        watcher = Watcher(watched_door())
        watcher.see("sound")
        self.assertEqual([type(watcher.rooms()), type(watcher.sights()), type(watcher.verdict())], [list, list, str])
        self.assertEqual({type(room) for room in watcher.rooms()}, {int})


class FortySigns(Watching):
    def test_a_forty_first(self):
        machine = one_sign(["b"])
        watcher = Watcher(machine)
        for count in range(40):
            self.hold(watcher, machine, ["x"] * count)
            self.assertIsNone(watcher.see("x"))
        self.hold(watcher, machine, ["x"] * 40)
        for text in ["x", "y", "a", "none"] + NO_WORDS:
            self.need_too_many(watcher, text)
        self.need_too_many(watcher, "x")
        self.hold(watcher, machine, ["x"] * 40)

    def test_refused_signs_are_not_counted(self):
        machine = one_sign([])
        watcher = Watcher(machine)
        for count in range(40):
            self.need_no_sight(watcher, "y")
            self.see_all(watcher, ["x"])
        self.hold(watcher, machine, ["x"] * 40)
        self.need_too_many(watcher, "y")

    def test_a_fortieth_that_is_refused(self):
        watcher = Watcher(one_sign([]))
        self.see_all(watcher, ["x"] * 39)
        self.need_no_sight(watcher, "y")
        self.see_all(watcher, ["x"])
        self.need_too_many(watcher, "x")


class Apart(Watching):
    def test_two_watchers_of_one_machine(self):
        machine = watched_door()
        one, two = Watcher(machine), Watcher(machine)
        one.see("sound")
        self.hold(one, machine, ["sound"])
        self.hold(two, machine, [])
        self.need_no_sight(two, "crash")
        one.see("crash")
        two.see("sound")
        self.hold(one, machine, ["sound", "crash"])
        self.hold(two, machine, ["sound"])
        self.hold(Watcher(machine), machine, [])

    def test_a_full_watcher_and_a_new_one(self):
        machine = one_sign([])
        full = Watcher(machine)
        self.see_all(full, ["x"] * 40)
        other = Watcher(machine)
        self.hold(other, machine, [])
        self.see_all(other, ["x"] * 40)
        self.hold(full, machine, ["x"] * 40)

    def test_watchers_of_two_machines(self):
        door, ring = watched_door(), one_sign(["a"])
        one, two = Watcher(door), Watcher(ring)
        one.see("sound")
        two.see("x")
        self.need_no_sight(one, "x")
        self.need_no_sight(two, "sound")
        self.hold(one, door, ["sound"])
        self.hold(two, ring, ["x"])

    def test_lists_that_it_told_changed_by_the_asker(self):
        machine = watched_door()
        watcher = Watcher(machine)
        for seen in [[], ["sound"], ["sound", "crash"]]:
            self.see_all(watcher, seen[-1:])
            for change in [lambda told_list: told_list.clear(), lambda told_list: told_list.append("sound"),
                           lambda told_list: told_list.extend([7, 7]), lambda told_list: told_list.reverse()]:
                change(watcher.sights())
                change(watcher.rooms())
                self.hold(watcher, machine, seen)

    def test_lists_that_it_told_stay_as_they_are(self):
        watcher = Watcher(watched_door())
        sights, rooms = watcher.sights(), watcher.rooms()
        watcher.see("sound")
        later_sights, later_rooms = watcher.sights(), watcher.rooms()
        watcher.see("crash")
        self.assertEqual((sights, rooms), ([], [0, 1]))
        self.assertEqual((later_sights, later_rooms), (["sound"], [0, 1, 2, 3]))

    def test_the_machine_is_copied(self):
        handed = watched_door()
        watcher = Watcher(handed)
        handed.__init__(1, [0], [(0, "a", 0)], {"a": "x"}, ["a"])
        self.hold(watcher, watched_door(), [])
        self.need_no_sight(watcher, "x")
        watcher.see("sound")
        self.hold(watcher, watched_door(), ["sound"])

    def test_asking_does_not_count_as_seeing(self):
        machine = one_sign(["a"])
        watcher = Watcher(machine)
        for count in range(100):
            self.hold(watcher, machine, [])
        watcher.see("x")
        for count in range(3):
            self.hold(watcher, machine, ["x"])


class AgainstPlainSearch(Watching):
    def test_behind_each_sign(self):
        chance = random.Random(51)
        refused, seen = 0, 0
        for count in range(400):
            machine = some_machine(chance, 6, 14)
            watcher = Watcher(machine)
            sights = []
            for place in range(12):
                sign = chance.choice(signs_in(machine))
                if ends_by_signs(machine, sights + [sign]):
                    self.assertIsNone(watcher.see(sign))
                    sights.append(sign)
                    seen += 1
                else:
                    self.need_no_sight(watcher, sign)
                    refused += 1
                self.hold(watcher, machine, sights)
        self.assertGreater(min(refused, seen), 800)

    def test_forty_signs_of_great_machines(self):
        chance = random.Random(52)
        for count in range(20):
            moves = [(room, deed, chance.randrange(8)) for room in range(8) for deed in "abf"]
            machine = Machine(8, [0, 3], moves, {"a": "x", "b": "y", "f": chance.choice(["x", "z"])}, ["f"])
            watcher = Watcher(machine)
            sights = [chance.choice(["x", "y"]) for place in range(40)]
            for place, sign in enumerate(sights):
                watcher.see(sign)
                self.hold(watcher, machine, sights[:place + 1])
            self.need_too_many(watcher, "x")


if __name__ == "__main__":
    unittest.main()
