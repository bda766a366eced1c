"""Points 12 and 13: secrets."""

import itertools
import random
import unittest

from helper import (
    FAR_NUMBERS, closed_by_unseen, ends_by_signs, refusal, signs_in, some_machine, some_machines, told, watched_door)
from sightbook.machines import Machine
from sightbook.secrets import secret
from sightbook.watching import possible

# Found by trying: secrets of one room that only long sights give away.
FIFTY_FIVE = Machine(
    8, [0],
    [(0, "b", 1), (0, "b", 2), (0, "b", 3), (0, "b", 4), (0, "b", 7), (1, "a", 2), (1, "b", 4), (2, "a", 7),
     (2, "b", 7), (3, "a", 5), (3, "b", 3), (3, "b", 5), (4, "a", 3), (4, "b", 0), (4, "b", 7), (5, "a", 6),
     (5, "b", 3), (6, "a", 1), (6, "b", 4), (6, "b", 6), (7, "a", 4), (7, "b", 1), (7, "b", 4), (7, "b", 6)],
    {"a": "a", "b": "b"}, [])
FORTY_SEVEN = Machine(
    8, [0],
    [(0, "a", 0), (0, "a", 1), (0, "c", 4), (1, "a", 7), (1, "b", 0), (2, "a", 5), (2, "b", 1), (2, "b", 3),
     (2, "b", 7), (3, "a", 3), (3, "b", 1), (3, "c", 4), (4, "a", 4), (4, "b", 4), (5, "a", 6), (5, "b", 2),
     (6, "a", 6), (6, "b", 1), (6, "b", 3), (6, "c", 0), (6, "c", 6), (6, "c", 7), (7, "a", 2), (7, "b", 0)],
    {"a": "a", "b": "b", "c": "c"}, [])


def rooms_behind(machine, rooms, sign):
    ends = closed_by_unseen(machine, {(last, False) for first, deed, last in machine.moves()
                                      if first in rooms and machine.sign_of(deed) == sign})
    return frozenset(room for room, fault in ends)


def sets_by_sights(machine):
    """All sets of possible rooms that aren't empty, each with the first of its shortest sights."""
    first = frozenset(room for room, fault in ends_by_signs(machine, []))
    best = {first: (0, [])} if first else {}
    grown = True
    while grown:
        grown = False
        for rooms, (length, sights) in list(best.items()):
            for sign in reversed(signs_in(machine)):
                after = rooms_behind(machine, rooms, sign)
                way = (length + 1, sights + [sign])
                if after and (after not in best or way < best[after]):
                    best[after] = way
                    grown = True
    return {rooms: sights for rooms, (length, sights) in best.items()}


def due_secret(sets, rooms):
    giving = [(len(sights), sights) for found, sights in sets.items() if found <= set(rooms)]
    if giving:
        return "given", min(giving)[1]
    return "kept", sorted(sorted(found) for found in sets)


def all_secrets(machine):
    return [list(rooms) for count in range(machine.size + 1)
            for rooms in itertools.combinations(range(machine.size), count)]


class Examples(unittest.TestCase):
    def test_no_rooms_are_always_kept(self):
        self.assertEqual(secret(watched_door(), []), ("kept", [[0, 1], [0, 1, 2, 3]]))

    def test_all_rooms_are_given_at_once(self):
        self.assertEqual(secret(watched_door(), [3, 1, 0, 2]), ("given", []))

    def test_no_starts(self):
        machine = Machine(3, [], [(0, "a", 1)], {"a": "x"}, [])
        for rooms in [[], [0], [2, 1, 0]]:
            self.assertEqual(secret(machine, rooms), ("kept", []))

    def test_no_moves(self):
        machine = Machine(3, [2, 1], [], {"a": "x"}, [])
        self.assertEqual(secret(machine, [1]), ("kept", [[1, 2]]))
        self.assertEqual(secret(machine, [2, 1]), ("given", []))

    def test_doubles_and_any_order(self):
        machine = watched_door()
        self.assertEqual(secret(machine, [1, 1]), ("kept", [[0, 1], [0, 1, 2, 3]]))
        self.assertEqual(secret(machine, [1, 0, 1, 0]), ("given", []))
        self.assertEqual(secret(machine, [0] * 100), ("kept", [[0, 1], [0, 1, 2, 3]]))

    def test_given_at_once_by_no_sights(self):
        machine = Machine(3, [0], [(0, "u", 1), (1, "a", 2)], {"a": "x"}, [])
        self.assertEqual(secret(machine, [0, 1]), ("given", []))
        self.assertEqual(secret(machine, [0]), ("kept", [[0, 1], [2]]))

    def test_given_by_one_sign(self):
        machine = Machine(3, [0], [(0, "a", 1), (0, "b", 2)], {"a": "x", "b": "y"}, [])
        self.assertEqual(secret(machine, [1]), ("given", ["x"]))
        self.assertEqual(secret(machine, [2]), ("given", ["y"]))
        self.assertEqual(secret(machine, [2, 1]), ("given", ["x"]))

    def test_kept_by_a_shared_sign(self):
        machine = Machine(3, [0], [(0, "a", 1), (0, "b", 2)], {"a": "x", "b": "x"}, [])
        self.assertEqual(secret(machine, [1]), ("kept", [[0], [1, 2]]))
        self.assertEqual(secret(machine, [2]), ("kept", [[0], [1, 2]]))
        self.assertEqual(secret(machine, [1, 2]), ("given", ["x"]))

    def test_kept_by_an_unseen_deed_behind_the_sign(self):
        machine = Machine(3, [0], [(0, "a", 1), (1, "u", 2)], {"a": "x"}, [])
        self.assertEqual(secret(machine, [1]), ("kept", [[0], [1, 2]]))

    def test_where_nothing_is_possible_nothing_is_given(self):
        machine = Machine(2, [0], [(1, "a", 1)], {"a": "x", "b": "y"}, [])
        self.assertEqual(secret(machine, [1]), ("kept", [[0]]))

    def test_faults_do_not_matter(self):
        machine = Machine(3, [0], [(0, "a", 1), (0, "b", 2)], {"a": "x", "b": "x"}, ["a"])
        self.assertEqual(secret(machine, [2]), ("kept", [[0], [1, 2]]))

    def test_the_shortest_though_it_comes_later_in_order(self):
        moves = [(0, "a", 1), (1, "a", 2), (0, "z", 3)]
        machine = Machine(4, [0], moves, {"a": "a", "z": "z"}, [])
        self.assertEqual(secret(machine, [2, 3]), ("given", ["z"]))

    def test_the_first_in_order_of_several_shortest(self):
        moves = [(0, "one", 1), (0, "two", 2), (1, "two", 3), (2, "one", 3)]
        machine = Machine(4, [0], moves, {"one": "q", "two": "p"}, [])
        self.assertEqual(secret(machine, [3]), ("given", ["p", "q"]))

    def test_words_that_begin_another(self):
        # Written behind one another "aba" comes ahead of "ac", but the list ["a", "c"] ahead of ["ab", "a"].
        moves = [(0, "d", 1), (1, "e", 3), (0, "f", 2), (2, "d", 3)]
        machine = Machine(4, [0], moves, {"d": "a", "e": "c", "f": "ab"}, [])
        self.assertEqual(secret(machine, [3]), ("given", ["a", "c"]))
        words = ["abcdefgh"[:length] for length in range(8, 0, -1)]
        machine = Machine(2, [0], [(0, word, 1) for word in words], {word: word for word in words}, [])
        self.assertEqual(secret(machine, [1]), ("given", ["a"]))

    def test_sets_in_the_order_of_lists(self):
        moves = [(0, "a", 2), (0, "a", 0), (2, "b", 1), (0, "c", 0), (0, "c", 1), (0, "c", 2), (1, "d", 3), (1, "d", 0)]
        machine = Machine(4, [0], moves, {deed: deed for deed in "abcd"}, [])
        told_sets = secret(machine, [3])
        self.assertEqual(told_sets, ("kept", [[0], [0, 1, 2], [0, 2], [0, 3], [1]]))

    def test_the_kinds_told(self):
        for answer in [secret(watched_door(), [0]), secret(watched_door(), [0, 1])]:
            self.assertIs(type(answer), tuple)
            self.assertIs(type(answer[1]), list)
        for rooms in secret(watched_door(), [0])[1]:
            self.assertIs(type(rooms), list)
            self.assertEqual({type(room) for room in rooms}, {int})


class LongSights(unittest.TestCase):
    def test_more_than_forty_signs(self):
        for machine, room, length in [(FIFTY_FIVE, 7, 55), (FORTY_SEVEN, 6, 47)]:
            word, sights = secret(machine, [room])
            self.assertEqual((word, len(sights)), ("given", length))
            self.assertEqual(possible(machine, sights), [room])
            self.assertEqual((word, sights), due_secret(sets_by_sights(machine), [room]))

    def test_two_rings(self):
        # The rings of three and five rooms are in their last rooms together behind 14 signs.
        moves = [(room, "a", (room + 1) % 3) for room in range(3)]
        moves.extend((3 + room, "a", 3 + (room + 1) % 5) for room in range(5))
        machine = Machine(8, [0, 3], moves, {"a": "x"}, [])
        self.assertEqual(secret(machine, [2, 7]), ("given", ["x"] * 14))
        self.assertEqual(secret(machine, [2]), ("kept", sorted([place % 3, 3 + place % 5] for place in range(15))))


class Refusals(unittest.TestCase):
    def test_numbers_that_are_no_room(self):
        for size in range(1, 9):
            machine = Machine(size, [0], [], {}, [])
            for number in [-1, -size, size, size + 1] + FAR_NUMBERS:
                due = ("NoRoom", {"room": number})
                self.assertEqual(told(refusal(secret, machine, [number])), due)
                self.assertEqual(told(refusal(secret, machine, [0, number, 0])), due)
            self.assertIsNone(refusal(secret, machine, list(range(size))))

    def test_the_first_one(self):
        machine = watched_door()
        for rooms, due in [([0, 9, -1], 9), ([-1, 9], -1), ([4, 5], 4), ([3, 5, 4], 5), ([-2, -3], -2)]:
            self.assertEqual(told(refusal(secret, machine, rooms)), ("NoRoom", {"room": due}))

    def test_without_starts_too(self):
        self.assertEqual(told(refusal(secret, Machine(2, [], [], {}, []), [2])), ("NoRoom", {"room": 2}))


class AgainstPlainSearch(unittest.TestCase):
    def test_all_secrets_of_many_small_machines(self):
        words = []
        for machine in some_machines(31, 500, 4, 8):
            sets = sets_by_sights(machine)
            for rooms in all_secrets(machine):
                answer = secret(machine, rooms)
                self.assertEqual(answer, due_secret(sets, rooms))
                words.append(answer[0] if answer != ("given", []) else "at once")
        for word in ["kept", "given", "at once"]:
            self.assertGreater(words.count(word), 200)

    def test_some_secrets_of_great_machines(self):
        chance = random.Random(32)
        lengths = []
        for count in range(200):
            deeds = ["a", "ab", "b", "u"]
            moves = [(chance.randrange(8), chance.choice(deeds), chance.randrange(8)) for place in range(24)]
            machine = Machine(8, [0], moves, {"a": "b", "ab": "ba", "b": chance.choice(["b", "c"])}, [])
            sets = sets_by_sights(machine)
            for place in range(10):
                rooms = [chance.randrange(8) for room in range(chance.randint(0, 6))]
                answer = secret(machine, rooms)
                self.assertEqual(answer, due_secret(sets, rooms))
                lengths.append(len(answer[1]) if answer[0] == "given" else 0)
        self.assertGreater(max(lengths), 4)

    def test_sights_by_sights_in_order(self):
        """The same by trying all sights, the shortest and the first in order first."""
        chance = random.Random(33)
        tried = 0
        for count in range(150):
            machine = some_machine(chance, 3, 5)
            sights_in_order = [list(sights) for length in range(7)
                               for sights in itertools.product(signs_in(machine)[:-1], repeat=length)]
            if len(sights_in_order) > 1200:
                continue
            tried += 1
            found = [(sights, possible(machine, sights)) for sights in sights_in_order]
            for rooms in all_secrets(machine):
                giving = [sights for sights, behind in found if behind and set(behind) <= set(rooms)]
                kept = sorted(list(behind) for behind in {tuple(behind) for sights, behind in found if behind})
                self.assertEqual(secret(machine, rooms), ("given", giving[0]) if giving else ("kept", kept))
        self.assertGreater(tried, 100)


if __name__ == "__main__":
    unittest.main()
