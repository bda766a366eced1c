"""Points 7 and 8: possible rooms and verdicts."""

import itertools
import random
import unittest

from helper import (
    FAR_NUMBERS, ends_by_runs, ends_by_signs, signs_in, some_machine, some_machines, some_sights, watched_door)
from sightbook.machines import Machine
from sightbook.watching import possible, run_to, run_with, verdict


def due_verdict(ends):
    faults = {fault for room, fault in ends}
    return {(): "never", (True,): "sure", (False,): "clear", (False, True): "maybe"}[tuple(sorted(faults))]


class Watching(unittest.TestCase):
    def need_run(self, machine, sights, run):
        """The run's end and whether it has a fault, where it is one with just these signs; by the tests' own walk."""
        self.assertIs(type(run), tuple)
        start, moves = run
        self.assertIs(type(moves), list)
        self.assertLessEqual(len(moves), 400)
        self.assertIn(start, machine.starts())
        room, signs, fault = start, [], False
        for move in moves:
            self.assertIn(move, machine.moves())
            self.assertEqual(move[0], room)
            room = move[2]
            fault = fault or machine.is_fault(move[1])
            if machine.sign_of(move[1]) is not None:
                signs.append(machine.sign_of(move[1]))
        self.assertEqual(signs, sights)
        return room, fault

    def hold(self, machine, sights, ends):
        """Holds all four answers against the (room, fault) at which runs with these sights end."""
        rooms = sorted({room for room, fault in ends})
        self.assertEqual(possible(machine, sights), rooms)
        self.assertEqual(verdict(machine, sights), due_verdict(ends))
        for room in range(-2, machine.size + 2):
            run = run_to(machine, sights, room)
            self.assertEqual(run is not None, room in rooms)
            if run is not None:
                self.assertEqual(self.need_run(machine, sights, run)[0], room)
        for wanted in [True, False]:
            run = run_with(machine, sights, wanted)
            self.assertEqual(run is not None, wanted in {fault for room, fault in ends})
            if run is not None:
                self.assertIs(self.need_run(machine, sights, run)[1], wanted)


class Examples(Watching):
    def test_no_sights(self):
        machine = watched_door()
        self.assertEqual(possible(machine, []), [0, 1])
        self.assertEqual(verdict(machine, []), "clear")
        self.assertEqual(run_to(machine, [], 0), (0, []))
        self.assertEqual(run_to(machine, [], 1), (0, [(0, "walk", 1)]))
        self.assertIsNone(run_to(machine, [], 2))
        self.assertIsNone(run_with(machine, [], True))

    def test_unseen_ahead_between_and_behind(self):
        moves = [(0, "u", 1), (1, "s", 2), (2, "u", 3), (3, "t", 4), (4, "u", 5), (5, "u", 6)]
        machine = Machine(7, [0], moves, {"s": "s", "t": "t"}, [])
        self.assertEqual(possible(machine, []), [0, 1])
        self.assertEqual(possible(machine, ["s"]), [2, 3])
        self.assertEqual(possible(machine, ["s", "t"]), [4, 5, 6])
        self.assertEqual(run_to(machine, ["s", "t"], 6), (0, moves))
        self.assertEqual(run_to(machine, ["s", "t"], 4), (0, moves[:4]))
        self.assertEqual(possible(machine, ["t"]), [])
        self.assertEqual(possible(machine, ["s", "t", "t"]), [])

    def test_the_four_verdicts(self):
        machine = watched_door()
        self.assertEqual(verdict(machine, ["crash"]), "never")
        self.assertEqual(verdict(machine, []), "clear")
        self.assertEqual(verdict(machine, ["sound"]), "maybe")
        self.assertEqual(verdict(machine, ["sound", "crash"]), "sure")
        self.assertEqual(verdict(machine, ["sound", "sound"]), "sure")

    def test_never_without_starts(self):
        machine = Machine(2, [], [(0, "a", 1), (1, "b", 0)], {"a": "a"}, ["b"])
        for sights in [[], ["a"], ["a", "a"]]:
            self.hold(machine, sights, set())

    def test_signs_of_no_deed(self):
        machine = Machine(1, [0], [(0, "a", 0)], {"a": "s", "b": "t"}, [])
        for sights in [["a"], ["t"], ["zzz"], ["s", "t"], ["t", "s"], ["ss"], ["s", "zzz", "s"]]:
            self.hold(machine, sights, set())
        self.hold(machine, ["s", "s"], {(0, False)})

    def test_a_sign_that_begins_another(self):
        machine = Machine(3, [0], [(0, "a", 1), (0, "b", 2)], {"a": "si", "b": "sign"}, [])
        self.assertEqual(possible(machine, ["si"]), [1])
        self.assertEqual(possible(machine, ["sign"]), [2])
        self.assertEqual(possible(machine, ["s"]), [])

    def test_rings_of_unseen_deeds(self):
        ring = [(room, "u", (room + 1) % 4) for room in range(4)]
        machine = Machine(4, [0], ring + [(2, "f", 2)], {}, ["f"])
        self.hold(machine, [], {(room, fault) for room in range(4) for fault in [True, False]})
        self.hold(machine, ["u"], set())
        seen = Machine(5, [0], ring + [(2, "s", 4), (4, "u", 4)], {"s": "s"}, ["s"])
        self.hold(seen, ["s"], {(4, True)})
        self.hold(seen, ["s", "s"], set())

    def test_a_fault_that_is_a_ring_by_itself(self):
        machine = Machine(1, [0], [(0, "f", 0)], {}, ["f"])
        self.hold(machine, [], {(0, True), (0, False)})
        self.assertEqual(verdict(machine, []), "maybe")
        seen = Machine(1, [0], [(0, "f", 0)], {"f": "f"}, ["f"])
        self.hold(seen, [], {(0, False)})
        self.hold(seen, ["f"], {(0, True)})

    def test_a_fault_stays_one(self):
        machine = Machine(2, [0], [(0, "f", 1), (1, "a", 0), (0, "b", 0)], {"a": "s", "b": "t"}, ["f"])
        self.assertEqual(verdict(machine, ["s", "t", "t"]), "sure")
        self.assertEqual(verdict(machine, ["t", "t"]), "maybe")

    def test_one_sign_of_a_fault_and_of_none(self):
        machine = Machine(3, [0], [(0, "f", 1), (0, "g", 2), (1, "a", 1), (2, "b", 2)],
                          {"f": "s", "g": "s", "a": "a", "b": "b"}, ["f"])
        self.assertEqual(verdict(machine, ["s"]), "maybe")
        self.assertEqual(verdict(machine, ["s", "a"]), "sure")
        self.assertEqual(verdict(machine, ["s", "b"]), "clear")

    def test_several_starts(self):
        machine = Machine(5, [4, 0, 2], [(4, "a", 1), (2, "a", 2)], {"a": "a"}, [])
        self.assertEqual(possible(machine, []), [0, 2, 4])
        self.assertEqual(possible(machine, ["a"]), [1, 2])
        self.assertEqual(possible(machine, ["a", "a"]), [2])

    def test_far_rooms(self):
        for machine in some_machines(3, 20, 4, 8):
            for number in FAR_NUMBERS:
                self.assertIsNone(run_to(machine, [], number))

    def test_the_kinds_told(self):
        machine = watched_door()
        self.assertIs(type(possible(machine, ["sound"])), list)
        self.assertIs(type(possible(machine, ["none"])), list)
        self.assertIs(type(verdict(machine, ["sound"])), str)


class LongSights(Watching):
    def test_forty_sights_with_seven_unseen_moves_at_each(self):
        line = [(room, "u", room + 1) for room in range(7)]
        machine = Machine(8, [0], line + [(7, "s", 0)], {"s": "s"}, [])
        self.hold(machine, ["s"] * 40, {(room, False) for room in range(8)})
        self.assertEqual(len(run_to(machine, ["s"] * 40, 7)[1]), 41 * 7 + 40)

    def test_a_fault_off_the_way(self):
        line = [(room, "u", room + 1) for room in range(7)]
        for back in range(8):
            for seen in [{"s": "s"}, {"s": "s", "f": "s"}]:
                machine = Machine(8, [0], line + [(7, "s", 0), (back, "f", 0)], seen, ["f"])
                for length in [1, 39, 40]:
                    self.hold(machine, ["s"] * length, ends_by_signs(machine, ["s"] * length))

    def test_a_fault_gone_round_for_and_forty_sights(self):
        # Behind the last sign no fault can come, and each other stretch is as long as can be.
        line = [(room, "u", room + 1) for room in range(6)]
        machine = Machine(8, [0], line + [(6, "s", 0), (6, "f", 0), (6, "t", 7)], {"s": "s", "t": "t"}, ["f"])
        sights = ["s"] * 39 + ["t"]
        self.hold(machine, sights, {(7, True), (7, False)})
        self.assertEqual(len(run_with(machine, sights, False)[1]), 40 * 6 + 40)
        self.assertGreaterEqual(len(run_with(machine, sights, True)[1]), 40 * 6 + 40 + 7)

    def test_eight_rooms_and_twenty_four_moves(self):
        chance = random.Random(40)
        lengths = []
        for count in range(60):
            deeds = ["a", "b", "c", "u", "v", "f"]
            moves = [(room, chance.choice(deeds), (room + step) % 8) for room in range(8) for step in [1, 3, 4]]
            machine = Machine(8, [0, 5], moves, {"a": "x", "b": "x", "c": "y"}, ["f"])
            self.assertEqual(len(machine.moves()), 24)
            sights = some_sights(machine, chance, 40)
            lengths.append(len(sights))
            self.hold(machine, sights, ends_by_signs(machine, sights))
        self.assertGreater(lengths.count(40), 30)

    def test_forty_sights_with_the_last_one_wrong(self):
        machine = Machine(2, [0], [(0, "a", 1), (1, "b", 0)], {"a": "a", "b": "b"}, [])
        self.hold(machine, ["a", "b"] * 20, {(0, False)})
        self.hold(machine, ["a", "b"] * 19 + ["a", "a"], set())


class AgainstPlainSearch(Watching):
    def test_every_machine_of_two_rooms_and_two_deeds(self):
        every_move = [(first, deed, last) for first in range(2) for deed in ["a", "b"] for last in range(2)]
        views = [({}, ["a"]), ({"a": "s"}, ["a"]), ({"a": "s"}, ["b"]), ({"a": "s", "b": "s"}, ["b"]),
                 ({"a": "a", "b": "b"}, [])]
        for count in range(4):
            for moves in itertools.combinations(every_move, count):
                for signs, faults in views:
                    machine = Machine(2, [0], list(moves), signs, faults)
                    for length in range(3):
                        for sights in itertools.product(sorted(set(signs.values())), repeat=length):
                            self.hold(machine, list(sights), ends_by_runs(machine, list(sights)))

    def test_run_by_run_over_many_small_machines(self):
        verdicts = []
        for machine in some_machines(11, 400, 3, 4):
            for length in range(3):
                for sights in itertools.product(signs_in(machine), repeat=length):
                    ends = ends_by_runs(machine, list(sights))
                    self.hold(machine, list(sights), ends)
                    verdicts.append(due_verdict(ends))
        for word in ["never", "sure", "clear", "maybe"]:
            self.assertGreater(verdicts.count(word), 50)

    def test_sign_by_sign_over_many_machines(self):
        chance = random.Random(12)
        for count in range(1500):
            machine = some_machine(chance, 8, 24)
            for length in [0, 1, 3, 8]:
                sights = some_sights(machine, chance, length)
                self.hold(machine, sights, ends_by_signs(machine, sights))

    def test_the_two_plain_searches_agree(self):
        chance = random.Random(13)
        for count in range(200):
            machine = some_machine(chance, 3, 4)
            sights = some_sights(machine, chance, 2)
            self.assertEqual(ends_by_runs(machine, sights), ends_by_signs(machine, sights))


if __name__ == "__main__":
    unittest.main()
