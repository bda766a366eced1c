"""Point 6: runs."""

import unittest

from helper import all_runs, some_machines, watched_door
from sightbook.machines import Machine
from sightbook.runs import has_fault, is_run, signs_of


class IsRun(unittest.TestCase):
    def test_of_no_moves(self):
        machine = Machine(4, [1, 3], [(1, "a", 2)], {}, [])
        for room in range(-2, 7):
            self.assertIs(is_run(machine, (room, [])), room in (1, 3))

    def test_without_starts(self):
        machine = Machine(2, [], [(0, "a", 1)], {}, [])
        self.assertIs(is_run(machine, (0, [])), False)
        self.assertIs(is_run(machine, (0, [(0, "a", 1)])), False)

    def test_good_ones(self):
        machine = watched_door()
        moves = [(0, "walk", 1), (1, "ring", 2), (2, "slip", 3), (3, "walk", 0), (0, "walk", 1), (1, "knock", 2)]
        for length in range(len(moves) + 1):
            self.assertIs(is_run(machine, (0, moves[:length])), True)

    def test_a_wrong_start(self):
        machine = watched_door()
        self.assertIs(is_run(machine, (1, [(1, "ring", 2)])), False)
        self.assertIs(is_run(machine, (1, [])), False)

    def test_the_first_move_from_elsewhere(self):
        machine = Machine(3, [0, 1], [(0, "a", 2), (1, "a", 2)], {}, [])
        self.assertIs(is_run(machine, (0, [(0, "a", 2)])), True)
        self.assertIs(is_run(machine, (0, [(1, "a", 2)])), False)

    def test_a_move_that_is_none(self):
        machine = watched_door()
        for move in [(0, "walk", 2), (0, "ring", 1), (0, "walk", 0), (0, "slip", 1), (0, "WALK", 1), (0, "", 1)]:
            self.assertIs(is_run(machine, (0, [move])), False)
            self.assertIs(is_run(machine, (0, [(0, "walk", 1), move])), False)

    def test_moves_that_do_not_join(self):
        machine = watched_door()
        self.assertIs(is_run(machine, (0, [(0, "walk", 1), (2, "slip", 3)])), False)
        self.assertIs(is_run(machine, (0, [(0, "walk", 1), (0, "walk", 1)])), False)
        self.assertIs(is_run(machine, (0, [(0, "walk", 1), (1, "ring", 2), (3, "walk", 0)])), False)

    def test_a_wrong_last_of_400_moves(self):
        machine = Machine(2, [0], [(0, "a", 1), (1, "a", 0)], {"a": "s"}, ["b"])
        moves = [(0, "a", 1), (1, "a", 0)] * 200
        self.assertIs(is_run(machine, (0, moves)), True)
        self.assertEqual(signs_of(machine, (0, moves)), ["s"] * 400)
        self.assertIs(is_run(machine, (0, moves[:399] + [(0, "a", 1)])), False)
        self.assertIs(is_run(machine, (0, moves[:399] + [(1, "b", 0)])), False)


class SignsAndFaults(unittest.TestCase):
    def test_of_no_moves(self):
        machine = watched_door()
        self.assertEqual(signs_of(machine, (0, [])), [])
        self.assertIs(has_fault(machine, (0, [])), False)

    def test_unseen_deeds_among_them(self):
        machine = watched_door()
        moves = [(0, "walk", 1), (1, "ring", 2), (2, "slip", 3), (3, "walk", 0),
                 (0, "walk", 1), (1, "knock", 2), (2, "break", 0)]
        due_signs = [[], [], ["sound"], ["sound"], ["sound"], ["sound"], ["sound"] * 2, ["sound", "sound", "crash"]]
        for length in range(len(moves) + 1):
            self.assertEqual(signs_of(machine, (0, moves[:length])), due_signs[length])
            self.assertIs(has_fault(machine, (0, moves[:length])), length >= 3)

    def test_signs_in_order(self):
        machine = Machine(1, [0], [(0, "z", 0), (0, "a", 0), (0, "m", 0)], {"z": "one", "a": "two"}, ["a"])
        run = (0, [(0, "z", 0), (0, "m", 0), (0, "a", 0), (0, "z", 0)])
        self.assertEqual(signs_of(machine, run), ["one", "two", "one"])
        self.assertIs(has_fault(machine, run), True)
        self.assertIs(has_fault(machine, (0, run[1][:2])), False)

    def test_an_unseen_fault_and_a_seen_one(self):
        machine = Machine(1, [0], [(0, "u", 0), (0, "s", 0)], {"s": "s"}, ["u", "s"])
        self.assertEqual(signs_of(machine, (0, [(0, "u", 0)])), [])
        self.assertIs(has_fault(machine, (0, [(0, "u", 0)])), True)
        self.assertEqual(signs_of(machine, (0, [(0, "s", 0)])), ["s"])
        self.assertIs(has_fault(machine, (0, [(0, "s", 0)])), True)

    def test_a_sign_that_is_called_like_a_fault(self):
        machine = Machine(1, [0], [(0, "a", 0)], {"a": "b"}, ["b"])
        self.assertIs(has_fault(machine, (0, [(0, "a", 0)])), False)


class AgainstAllTriples(unittest.TestCase):
    def test_all_short_lists_of_moves(self):
        for machine in some_machines(6, 60, 3, 4):
            moves = machine.moves() + [(0, "zz", 0), (machine.size, "a", 0)]
            for start in range(-1, machine.size + 1):
                for one in moves:
                    self.hold(machine, start, [one])
                    for two in moves:
                        self.hold(machine, start, [one, two])

    def hold(self, machine, start, moves):
        joined = [start] + [last for first, deed, last in moves]
        due = (start in machine.starts() and all(move in machine.moves() for move in moves)
               and all(move[0] == room for move, room in zip(moves, joined)))
        self.assertIs(is_run(machine, (start, moves)), due)

    def test_grown_runs(self):
        for machine in some_machines(7, 40, 3, 4):
            sights = ["x", "y"]
            for start, moves, end, signs, fault in all_runs(machine, sights, 4):
                self.assertIs(is_run(machine, (start, moves)), True)
                self.assertEqual(signs_of(machine, (start, moves)), signs)
                self.assertIs(has_fault(machine, (start, moves)), fault)


if __name__ == "__main__":
    unittest.main()
