"""Points 9, 10 and 11: twins, the delay, met pairs and their ranks."""

import itertools
import random
import unittest

from helper import due_delay, ends_by_signs, some_machines, walked, watched_door
from sightbook.delays import delay
from sightbook.machines import Machine

NOTHING = ("within", 0, [], None)

# Found by trying, each with 8 rooms: a delay of 62; twins of some 60 moves; a ring of some 60 moves with its stem.
LONG_DELAY = Machine(
    8, [0],
    [(0, "b", 5), (0, "f", 5), (1, "c", 2), (1, "f", 4), (2, "a", 6), (2, "c", 6), (2, "f", 4), (2, "u", 6),
     (3, "a", 7), (3, "b", 4), (3, "c", 4), (3, "c", 6), (3, "f", 2), (4, "b", 2), (4, "b", 7), (4, "c", 7),
     (5, "b", 3), (5, "f", 3), (5, "f", 4), (6, "f", 1), (7, "b", 1), (7, "f", 0), (7, "u", 2)],
    {"a": "x", "b": "y", "c": "x"}, ["f"])
LONG_TWINS = Machine(
    8, [0],
    [(0, "a", 2), (0, "f", 5), (0, "u", 2), (1, "a", 7), (1, "u", 7), (2, "c", 3), (2, "c", 7), (2, "u", 3),
     (3, "b", 1), (3, "c", 6), (3, "u", 6), (4, "f", 0), (4, "f", 7), (5, "a", 1), (5, "u", 1), (6, "a", 5),
     (6, "u", 5), (7, "a", 4), (7, "u", 4)],
    {"a": "x", "b": "y", "c": "x", "f": "x"}, ["f"])
LONG_RING = Machine(
    8, [0],
    [(0, "a", 5), (1, "c", 3), (2, "b", 7), (2, "u", 3), (3, "a", 2), (4, "a", 6), (4, "f", 2), (4, "f", 5),
     (4, "f", 6), (5, "a", 1), (6, "c", 0), (6, "u", 7), (7, "u", 4)],
    {"a": "x", "b": "y", "c": "x", "f": "y"}, ["f"])


def faulty_machine(chance, size, count):
    """A machine whose moves lead onwards for the most part, so that many have a delay, and not only a short one."""
    deeds = ["a", "b", "c", "u", "f"]
    onwards = [(first, deed, last) for first in range(size) for deed in deeds for last in range(first + 1, size)]
    back = [(first, deed, last) for first in range(size) for deed in deeds for last in range(first + 1)]
    rings = chance.choice([0, 0, 1, 3, count])
    moves = chance.sample(onwards, min(count - min(rings, count), len(onwards)))
    moves.extend(chance.sample(back, min(count - len(moves), len(back))))
    signs = {deed: chance.choice(["x", "x", "y"]) for deed in deeds if chance.random() < 0.6}
    starts = [0] if chance.random() < 0.7 else [0, chance.randrange(size)]
    return Machine(size, starts, moves, signs, chance.choice([["f"], ["f"], ["f", "b"]]))


class Delays(unittest.TestCase):
    def need_run(self, machine, run):
        """Its end, its signs and the deeds behind its first fault, by the tests' own walk."""
        self.assertIs(type(run), tuple)
        self.assertEqual(len(run), 2)
        self.assertIs(type(run[0]), int)
        self.assertIs(type(run[1]), list)
        found = walked(machine, run)
        self.assertIsNotNone(found)
        return found

    def need_twins(self, machine, one, other):
        """The deeds behind the one's first fault."""
        end, signs, behind = self.need_run(machine, one)
        its_end, its_signs, its_behind = self.need_run(machine, other)
        self.assertIsNotNone(behind)
        self.assertIsNone(its_behind)
        self.assertEqual(signs, its_signs)
        return behind

    def hold_within(self, machine, told, due, ranks):
        self.assertEqual(told[:2], ("within", due))
        self.assertIs(type(told[1]), int)
        self.assertIs(type(told[2]), list)
        self.assertEqual(told[2], sorted((x, y, rank) for (x, y), rank in ranks.items()))
        for triple in told[2]:
            self.assertEqual([type(part) for part in triple], [int, int, int])
        self.assertEqual(len(told), 4)
        if due == 0:
            self.assertIsNone(told[3])
            return
        self.assertIs(type(told[3]), tuple)
        self.assertEqual(len(told[3]), 2)
        one, other = told[3]
        self.assertEqual(self.need_twins(machine, one, other), due - 1)
        self.assertLessEqual(max(len(one[1]), len(other[1])), 200)

    def hold_never(self, machine, told):
        word, one, at, other, by = told
        self.assertEqual(word, "never")
        self.assertEqual([type(at), type(by)], [int, int])
        self.assertLessEqual(max(len(one[1]), len(other[1])), 200)
        stem, ring = (one[0], one[1][:at]), one[1][at:]
        its_stem, its_ring = (other[0], other[1][:by]), other[1][by:]
        self.assertTrue(0 < at < len(one[1]))
        self.assertTrue(0 <= by <= len(other[1]))
        self.need_twins(machine, one, other)
        end, signs, behind = self.need_run(machine, stem)
        its_end, its_signs, its_behind = self.need_run(machine, its_stem)
        self.assertIsNotNone(behind)
        self.assertEqual(signs, its_signs)
        self.assertEqual(self.need_run(machine, one)[0], end)
        self.assertEqual(self.need_run(machine, other)[0], its_end)
        for times in range(4):
            longer = (one[0], stem[1] + ring * times)
            its_longer = (other[0], its_stem[1] + its_ring * times)
            self.assertEqual(self.need_twins(machine, longer, its_longer), behind + len(ring) * times)

    def hold(self, machine):
        """Holds the answer against the tests' own search, and tells the delay or None."""
        due, ranks = due_delay(machine)
        told = delay(machine)
        self.assertIs(type(told), tuple)
        if due is None:
            self.hold_never(machine, told)
        else:
            self.hold_within(machine, told, due, ranks)
        return due


class NoTwins(Delays):
    def test_no_faults(self):
        moves = [(0, "a", 1), (1, "b", 0), (1, "u", 1)]
        for faults in [[], ["z"], ["x", "aa"]]:
            self.assertEqual(delay(Machine(2, [0], moves, {"a": "x"}, faults)), NOTHING)

    def test_no_starts(self):
        self.assertEqual(delay(Machine(2, [], [(0, "f", 1), (0, "u", 0), (1, "u", 1)], {}, ["f"])), NOTHING)

    def test_no_moves(self):
        for starts in [[], [0], [0, 1]]:
            self.assertEqual(delay(Machine(2, starts, [], {"f": "x"}, ["f"])), NOTHING)

    def test_faults_that_no_run_reaches(self):
        moves = [(0, "a", 0), (1, "f", 2), (2, "u", 2), (2, "a", 1)]
        self.assertEqual(delay(Machine(3, [0], moves, {"a": "x"}, ["f"])), NOTHING)

    def test_a_fault_with_a_sign_of_its_own(self):
        moves = [(0, "a", 0), (0, "f", 1), (1, "u", 1), (0, "u", 0), (1, "a", 1)]
        self.assertEqual(delay(Machine(2, [0], moves, {"a": "x", "f": "y"}, ["f"])), NOTHING)

    def test_a_fault_whose_sign_another_deed_has_elsewhere(self):
        moves = [(0, "f", 1), (1, "g", 2)]
        self.assertEqual(delay(Machine(3, [0], moves, {"f": "x", "g": "x"}, ["f"])), NOTHING)

    def test_all_deeds_are_faults_and_seen(self):
        moves = [(0, "f", 1), (1, "g", 0)]
        self.assertEqual(delay(Machine(2, [0], moves, {"f": "x", "g": "x"}, ["f", "g"])), NOTHING)

    def test_told_by_the_starts_alone(self):
        # The other start has no twin of the fault's sign either: its own deed shows another one.
        moves = [(0, "f", 0), (1, "g", 1)]
        self.assertEqual(delay(Machine(2, [0, 1], moves, {"f": "x", "g": "y"}, ["f"])), NOTHING)


class Within(Delays):
    def test_the_door(self):
        self.assertEqual(self.hold(watched_door()), 3)

    def test_a_twin_behind_which_no_deed_comes(self):
        machine = Machine(2, [0], [(0, "f", 1)], {}, ["f"])
        told = delay(machine)
        self.assertEqual(told, ("within", 1, [(1, 0, 0)], ((0, [(0, "f", 1)]), (0, []))))
        self.hold(machine)

    def test_a_fault_whose_sign_another_deed_has(self):
        machine = Machine(3, [0], [(0, "f", 1), (0, "g", 2)], {"f": "x", "g": "x"}, ["f"])
        self.assertEqual(
            delay(machine), ("within", 1, [(1, 2, 0)], ((0, [(0, "f", 1)]), (0, [(0, "g", 2)]))))

    def test_one_unseen_deed_behind_a_fault(self):
        machine = Machine(3, [0], [(0, "f", 1), (1, "u", 2)], {}, ["f"])
        moves = [(0, "f", 1), (1, "u", 2)]
        self.assertEqual(delay(machine), ("within", 2, [(1, 0, 1), (2, 0, 0)], ((0, moves), (0, []))))

    def test_a_sign_that_the_other_gives_too(self):
        machine = Machine(4, [0], [(0, "f", 1), (1, "a", 2), (0, "a", 3)], {"a": "x"}, ["f"])
        told = delay(machine)
        self.assertEqual(told[:3], ("within", 2, [(1, 0, 1), (2, 3, 0)]))
        self.hold(machine)

    def test_a_sign_that_the_other_does_not_give(self):
        machine = Machine(4, [0], [(0, "f", 1), (1, "a", 2), (0, "b", 3)], {"a": "x", "b": "y"}, ["f"])
        self.assertEqual(delay(machine)[:3], ("within", 1, [(1, 0, 0)]))
        self.hold(machine)

    def test_a_sign_that_only_a_fault_gives_too(self):
        machine = Machine(4, [0], [(0, "f", 1), (1, "a", 2), (0, "g", 3)], {"a": "x", "g": "x"}, ["f", "g"])
        self.assertEqual(delay(machine)[:3], ("within", 1, [(1, 0, 0)]))
        self.hold(machine)

    def test_chains_of_ranks(self):
        for count in range(7):
            chain = [(room, "u", room + 1) for room in range(1, count + 1)]
            machine = Machine(8, [0], [(0, "f", 1)] + chain, {}, ["f"])
            due = [(1 + place, 0, count - place) for place in range(count + 1)]
            self.assertEqual(delay(machine)[:3], ("within", count + 1, due))
            self.hold(machine)

    def test_chains_of_the_same_signs(self):
        for count in range(6):
            chain = [(room, "a", room + 1) for room in range(1, count + 1)]
            machine = Machine(8, [0], [(0, "f", 1), (0, "u", 1)] + chain, {"a": "x"}, ["f"])
            due = [(1, 0, count)] + [(room, room, count + 1 - room) for room in range(1, count + 2)]
            self.assertEqual(delay(machine)[:3], ("within", count + 1, due))
            self.hold(machine)

    def test_the_others_unseen_moves_do_not_count(self):
        chain = [(0, "u", 2), (2, "u", 3), (3, "u", 4), (4, "a", 5)]
        machine = Machine(7, [0], [(0, "f", 1), (1, "a", 6)] + chain, {"a": "x"}, ["f"])
        told = delay(machine)
        self.assertEqual(told[1], 2)
        self.assertIn((1, 0, 1), told[2])
        self.assertIn((6, 5, 0), told[2])
        self.hold(machine)

    def test_rings_of_the_others_unseen_moves_do_not_count(self):
        machine = Machine(4, [0], [(0, "f", 1), (0, "u", 2), (2, "u", 3), (3, "u", 2)], {}, ["f"])
        self.assertEqual(delay(machine)[:3], ("within", 1, [(1, 0, 0), (1, 2, 0), (1, 3, 0)]))
        self.hold(machine)

    def test_a_ring_of_unseen_deeds_ahead_of_the_fault(self):
        machine = Machine(2, [0], [(0, "u", 0), (0, "f", 1)], {}, ["f"])
        self.assertEqual(delay(machine)[:3], ("within", 1, [(1, 0, 0)]))
        self.hold(machine)

    def test_a_ring_behind_a_fault_that_only_the_one_can_go(self):
        machine = Machine(2, [0], [(0, "f", 1), (1, "a", 1)], {"a": "x"}, ["f"])
        self.assertEqual(delay(machine)[:3], ("within", 1, [(1, 0, 0)]))
        self.hold(machine)

    def test_several_faults_count_from_the_first(self):
        machine = Machine(4, [0], [(0, "f", 1), (1, "g", 2), (2, "f", 3)], {}, ["f", "g"])
        told = delay(machine)
        self.assertEqual(told[:3], ("within", 3, [(1, 0, 2), (2, 0, 1), (3, 0, 0)]))
        self.hold(machine)

    def test_met_pairs_that_no_first_fault_leads_to(self):
        moves = [(0, "f", 1), (1, "a", 2), (0, "b", 3), (2, "a", 4), (3, "b", 4)]
        machine = Machine(5, [0], moves, {"a": "x", "b": "x"}, ["f"])
        self.assertEqual(delay(machine)[:3], ("within", 3, [(1, 0, 2), (2, 3, 1), (4, 4, 0)]))
        self.hold(machine)

    def test_twins_from_two_starts(self):
        machine = Machine(4, [0, 2], [(0, "f", 1), (2, "a", 3)], {"f": "x", "a": "x"}, ["f"])
        self.assertEqual(
            delay(machine), ("within", 1, [(1, 3, 0)], ((0, [(0, "f", 1)]), (2, [(2, "a", 3)]))))

    def test_deeds_far_behind_an_early_fault(self):
        # Two ways to a fault: behind the near one nothing comes, behind the far one two deeds.
        moves = [(0, "f", 1), (0, "a", 2), (2, "a", 3), (3, "f", 4), (4, "u", 5), (5, "u", 6)]
        machine = Machine(7, [0], moves, {"a": "x"}, ["f"])
        told = delay(machine)
        self.assertEqual(told[1], 3)
        self.assertEqual(self.hold(machine), 3)

    def test_long_ones(self):
        self.assertEqual(self.hold(LONG_DELAY), 62)
        self.hold(LONG_TWINS)
        one, other = delay(LONG_TWINS)[3]
        self.assertGreater(len(one[1]), 40)


class Never(Delays):
    def test_a_ring_of_unseen_deeds_behind_a_fault(self):
        for count in range(1, 7):
            ring = [(room, "u", room % count + 1) for room in range(1, count + 1)]
            machine = Machine(8, [0], [(0, "f", 1)] + ring, {}, ["f"])
            self.assertIsNone(self.hold(machine))
            told = delay(machine)
            self.assertEqual(told[3:], ((0, []), 0))
            self.assertEqual(len(told[1][1]) - told[2], count)

    def test_a_fault_that_is_a_ring(self):
        machine = Machine(1, [0], [(0, "f", 0)], {}, ["f"])
        self.assertEqual(delay(machine), ("never", (0, [(0, "f", 0)] * 2), 1, (0, []), 0))

    def test_rings_of_the_same_signs(self):
        moves = [(0, "f", 1), (1, "a", 1), (0, "b", 0)]
        machine = Machine(2, [0], moves, {"a": "x", "b": "x"}, ["f"])
        self.assertIsNone(self.hold(machine))
        self.assertIsNone(self.hold(Machine(2, [0], moves, {"a": "x", "b": "x", "f": "x"}, ["f"])))
        self.assertEqual(self.hold(Machine(2, [0], moves, {"a": "x", "b": "y"}, ["f"])), 1)

    def test_rings_of_unlike_lengths(self):
        one = [(0, "f", 1), (1, "a", 2), (2, "a", 1)]
        other = [(0, "u", 3), (3, "a", 4), (4, "a", 5), (5, "u", 6), (6, "a", 3)]
        machine = Machine(7, [0], one + other, {"a": "x"}, ["f"])
        self.assertIsNone(self.hold(machine))

    def test_a_ring_behind_a_chain(self):
        moves = [(0, "f", 1), (0, "g", 1), (1, "a", 2), (2, "b", 3), (3, "u", 4), (4, "a", 2)]
        machine = Machine(5, [0], moves, {"a": "x", "b": "y"}, ["f"])
        self.assertIsNone(self.hold(machine))

    def test_a_ring_with_a_fault_in_it(self):
        machine = Machine(2, [0], [(0, "f", 1), (1, "a", 0), (0, "b", 0)], {"a": "x", "b": "x"}, ["f"])
        self.assertIsNone(self.hold(machine))

    def test_a_seen_fault_whose_sign_another_deed_has(self):
        moves = [(0, "f", 1), (0, "g", 1), (1, "a", 1)]
        self.assertIsNone(self.hold(Machine(2, [0], moves, {"f": "x", "g": "x", "a": "a"}, ["f"])))
        self.assertIsNone(self.hold(Machine(2, [0], moves, {"f": "x", "g": "x"}, ["f"])))
        self.assertEqual(self.hold(Machine(2, [0], moves, {"f": "x", "g": "y"}, ["f"])), 0)

    def test_a_ring_that_only_some_met_pair_goes_into(self):
        moves = [(0, "f", 1), (1, "u", 2), (2, "u", 3), (2, "u", 4), (4, "u", 4)]
        self.assertIsNone(self.hold(Machine(5, [0], moves, {}, ["f"])))
        self.assertEqual(self.hold(Machine(5, [0], moves[:-1], {}, ["f"])), 3)

    def test_long_ones(self):
        self.assertIsNone(self.hold(LONG_RING))
        told = delay(LONG_RING)
        self.assertGreater(max(len(told[1][1]), len(told[3][1])), 40)


class AgainstPlainSearch(Delays):
    def test_every_machine_of_two_rooms_and_two_deeds(self):
        every_move = [(first, deed, last) for first in range(2) for deed in ["a", "f"] for last in range(2)]
        views = [{}, {"a": "s"}, {"f": "s"}, {"a": "s", "f": "s"}]
        found = set()
        for count in range(5):
            for moves in itertools.combinations(every_move, count):
                for signs in views:
                    found.add(self.hold(Machine(2, [0], list(moves), signs, ["f"])))
        self.assertEqual(found, {None, 0, 1})

    def test_many_small_machines(self):
        for machine in some_machines(21, 2000, 4, 7):
            self.hold(machine)

    def test_many_machines_with_faults(self):
        chance = random.Random(22)
        found = []
        for count in range(2500):
            size = chance.randint(2, 5)
            found.append(self.hold(faulty_machine(chance, size, chance.randint(2, 9))))
        for due in [None, 0, 1, 2, 3]:
            self.assertGreater(found.count(due), 30, due)

    def test_eight_rooms_and_twenty_four_moves(self):
        chance = random.Random(23)
        found = []
        for count in range(400):
            machine = faulty_machine(chance, 8, 24)
            self.assertEqual((machine.size, len(machine.moves())), (8, 24))
            found.append(self.hold(machine))
        self.assertGreater(found.count(None), 60)
        self.assertGreater(len([due for due in found if due is not None and due > 2]), 60)

    def test_run_by_run(self):
        """The same by looking at all runs of some length, one by one, and at whether each has a twin."""
        most = 9
        for machine in some_machines(24, 300, 2, 4):
            behinds = [behind for behind, signs in self.runs_with_faults(machine, most)
                       if False in {fault for room, fault in ends_by_signs(machine, signs)}]
            told = delay(machine)
            if told[0] == "within":
                self.assertEqual(max(behinds, default=-1) + 1, told[1])
            else:
                self.assertGreaterEqual(max(behinds), 4)

    def runs_with_faults(self, machine, most):
        """All (deeds behind the fault, signs) of runs of at most so many moves that have a fault."""
        found = set()
        front = {(room, None, ()) for room in machine.starts()}
        for length in range(most):
            longer = set()
            for room, behind, signs in front:
                for first, deed, last in machine.moves():
                    if first == room:
                        sign = machine.sign_of(deed)
                        later = 0 if machine.is_fault(deed) else None
                        later = later if behind is None else behind + 1
                        longer.add((last, later, signs if sign is None else signs + (sign,)))
            front = longer
            found |= {(behind, signs) for room, behind, signs in front if behind is not None}
        return [(behind, list(signs)) for behind, signs in sorted(found)]


class Again(Delays):
    def test_doubles_and_order_change_nothing(self):
        chance = random.Random(25)
        for machine in some_machines(26, 100, 5, 10):
            moves = machine.moves() * 2
            chance.shuffle(moves)
            starts = list(reversed(machine.starts() * 2))
            deeds = ["d", "c", "b", "ab", "a"]
            signs = {deed: machine.sign_of(deed) for deed in deeds if machine.sign_of(deed) is not None}
            faults = [deed for deed in deeds if machine.is_fault(deed)] * 2
            same = Machine(machine.size, starts, moves, signs, faults)
            self.assertEqual(delay(same), delay(machine))


if __name__ == "__main__":
    unittest.main()
