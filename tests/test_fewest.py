"""Point 14: machines watched by some deeds, and the fewest deeds that must be seen."""

import itertools
import random
import unittest

from helper import NO_WORDS, due_delay, refusal, some_machine, some_machines, told, watched_door
from sightbook.delays import delay
from sightbook.fewest import fewest, watched
from sightbook.machines import Machine

DEEDS = ["a", "ab", "b", "c", "d"]


def parted(branches):
    """A fault and a deed that is none, and behind each of them a ring by a deed of its own; so many such forks."""
    moves = []
    for place, (fault, good, one, other) in enumerate(branches):
        moves.extend([(0, fault, 2 * place + 1), (0, good, 2 * place + 2)])
        moves.extend([(2 * place + 1, one, 2 * place + 1), (2 * place + 2, other, 2 * place + 2)])
    return Machine(8, [0], moves, {}, [branch[0] for branch in branches])


def own_view(machine, deeds):
    """The machine watched by the deeds, made by the tests alone."""
    faults = [deed for deed in DEEDS + ["e", "f", "g", "slip", "break"] if machine.is_fault(deed)]
    return Machine(machine.size, machine.starts(), machine.moves(), {deed: deed for deed in deeds}, faults)


def due_fewest(machine, deeds):
    for count in range(len(set(deeds)) + 1):
        lists = [list(some) for some in itertools.combinations(sorted(set(deeds)), count)]
        good = [some for some in lists if due_delay(own_view(machine, some))[0] is not None]
        if good:
            return min(good)
    return None


class Watched(unittest.TestCase):
    def test_all_else_stays(self):
        for machine in some_machines(41, 200, 6, 12):
            for deeds in [[], ["a"], ["d", "ab", "d"], DEEDS]:
                seen = watched(machine, deeds)
                self.assertIs(type(seen), Machine)
                self.assertEqual((seen.size, seen.starts(), seen.moves()),
                                 (machine.size, machine.starts(), machine.moves()))
                for deed in DEEDS + ["z"]:
                    self.assertEqual(seen.sign_of(deed), deed if deed in deeds else None)
                    self.assertIs(seen.is_fault(deed), machine.is_fault(deed))

    def test_whatever_signs_it_had(self):
        machine = Machine(1, [0], [(0, "a", 0), (0, "b", 0)], {"a": "x", "b": "x", "c": "y"}, ["b"])
        seen = watched(machine, ["b", "e"])
        self.assertEqual([seen.sign_of(deed) for deed in "abcexy"], [None, "b", None, "e", None, None])
        self.assertEqual([machine.sign_of(deed) for deed in "abcexy"], ["x", "x", "y", None, None, None])

    def test_faults_that_no_move_has(self):
        machine = Machine(1, [0], [(0, "a", 0)], {}, ["gone", "far", "a"])
        for deeds in [[], ["gone"], ["a", "b"]]:
            seen = watched(machine, deeds)
            self.assertEqual([seen.is_fault(deed) for deed in ["gone", "far", "a", "b"]], [True, True, True, False])

    def test_deeds_that_are_faults_and_deeds_that_no_move_has(self):
        seen = watched(watched_door(), ["slip", "none"])
        self.assertEqual([seen.sign_of(deed) for deed in ["slip", "none", "break"]], ["slip", "none", None])
        self.assertIs(seen.is_fault("slip"), True)
        self.assertIs(seen.is_fault("none"), False)

    def test_watched_again(self):
        seen = watched(watched(watched_door(), ["walk"]), ["ring"])
        self.assertEqual([seen.sign_of(deed) for deed in ["walk", "ring", "knock"]], [None, "ring", None])

    def test_no_starts_and_no_moves(self):
        seen = watched(Machine(3, [], [], {"a": "x"}, []), ["b"])
        self.assertEqual((seen.size, seen.starts(), seen.moves()), (3, [], []))
        self.assertEqual([seen.sign_of("a"), seen.sign_of("b")], [None, "b"])


class Fewest(unittest.TestCase):
    def test_no_deeds(self):
        self.assertEqual(fewest(Machine(2, [0], [(0, "f", 1)], {}, ["f"]), []), [])
        self.assertIsNone(fewest(Machine(1, [0], [(0, "f", 0)], {"f": "f"}, ["f"]), []))

    def test_none_needed(self):
        for machine in [Machine(1, [], [], {}, []), Machine(2, [0], [(0, "f", 1), (0, "u", 0)], {}, ["f"]),
                        Machine(1, [0], [(0, "a", 0)], {"a": "x"}, [])]:
            self.assertEqual(fewest(machine, ["f", "u", "a"]), [])

    def test_one_deed(self):
        machine = Machine(2, [0], [(0, "f", 1), (1, "a", 1)], {}, ["f"])
        self.assertEqual(fewest(machine, ["f"]), ["f"])
        self.assertEqual(fewest(machine, ["a"]), ["a"])
        self.assertEqual(fewest(machine, ["f", "a"]), ["a"])
        self.assertEqual(fewest(machine, ["f", "f"]), ["f"])
        self.assertIsNone(fewest(machine, ["b"]))
        self.assertIsNone(fewest(machine, []))

    def test_the_machines_own_signs_do_not_matter(self):
        for signs in [{}, {"a": "x", "f": "x"}, {"a": "a", "f": "f"}]:
            machine = Machine(2, [0], [(0, "f", 1), (1, "a", 1)], signs, ["f"])
            self.assertIsNone(fewest(machine, []))
            self.assertEqual(fewest(machine, ["a", "b"]), ["a"])

    def test_several_deeds(self):
        two = parted([("f", "u", "a", "b"), ("g", "u", "c", "d")])
        self.assertEqual(fewest(two, ["a", "b", "c", "d"]), ["a", "c"])
        self.assertEqual(fewest(two, ["d", "c", "b", "a", "f", "g"]), ["a", "c"])
        self.assertEqual(fewest(two, ["g", "f"]), ["f", "g"])
        self.assertIsNone(fewest(two, ["a", "b"]))
        three = parted([("f", "u", "c", "u"), ("g", "u", "a", "u"), ("h", "u", "b", "u")])
        self.assertEqual(fewest(three, ["h", "g", "f", "c", "b", "a"]), ["a", "b", "c"])
        self.assertEqual(fewest(three, ["h", "g", "f", "c", "b"]), ["b", "c", "g"])
        self.assertIsNone(fewest(three, ["h", "g", "b"]))

    def test_six_deeds_needed(self):
        moves = [(0, deed, 1) for deed in "fghijk"] + [(1, "u", 1)]
        machine = Machine(2, [0], moves, {}, list("fghijk"))
        self.assertEqual(fewest(machine, list("kjihgf")), list("fghijk"))
        self.assertIsNone(fewest(machine, list("kjihg")))
        self.assertIsNone(fewest(machine, list("kjihg") + ["z"]))

    def test_the_shortest_ahead_of_the_first_in_order(self):
        moves = [(0, "f", 1), (0, "g", 1), (1, "z", 1)]
        machine = Machine(2, [0], moves, {}, ["f", "g"])
        self.assertEqual(fewest(machine, ["f", "g", "z"]), ["z"])
        self.assertEqual(fewest(machine, ["f", "g"]), ["f", "g"])

    def test_words_that_begin_another(self):
        moves = [(0, "abc", 1), (1, "abcd", 1), (1, "ab", 1)]
        machine = Machine(2, [0], moves, {}, ["abc"])
        self.assertEqual(fewest(machine, ["abcd", "abc", "ab"]), ["abc"])
        self.assertEqual(fewest(machine, ["abcd", "ab"]), ["ab", "abcd"])
        moves = [(0, "f", 1), (1, "abc", 2), (2, "ab", 3), (3, "b", 1)]
        machine = Machine(4, [0], moves, {}, ["f"])
        self.assertEqual(fewest(machine, ["b", "abc", "ab"]), ["ab"])

    def test_doubles(self):
        machine = parted([("f", "u", "a", "b"), ("g", "u", "c", "d")])
        self.assertEqual(fewest(machine, ["c", "a", "c", "a", "a", "c"]), ["a", "c"])

    def test_deeds_that_no_move_has(self):
        machine = Machine(2, [0], [(0, "f", 1), (1, "m", 1)], {}, ["f"])
        self.assertEqual(fewest(machine, ["a", "m", "z"]), ["m"])
        self.assertIsNone(fewest(machine, ["a", "z"]))

    def test_somewhat_beyond_six(self):
        machine = parted([("f", "u", "a", "b"), ("g", "u", "c", "d")])
        self.assertEqual(fewest(machine, list("abcdfguz") + ["a"]), ["a", "c"])

    def test_the_answer_is_a_list_in_order(self):
        machine = parted([("f", "u", "a", "b"), ("g", "u", "c", "d")])
        answer = fewest(machine, ["g", "f"])
        self.assertIs(type(answer), list)
        self.assertEqual(answer, ["f", "g"])
        self.assertEqual(delay(watched(machine, answer))[0], "within")


class Refusals(unittest.TestCase):
    def test_texts_that_are_no_words(self):
        for call in [watched, fewest]:
            for text in NO_WORDS:
                due = ("NoWord", {"word": text})
                self.assertEqual(told(refusal(call, watched_door(), [text])), due)
                self.assertEqual(told(refusal(call, watched_door(), ["ring", text, "knock"])), due)

    def test_the_first_one(self):
        for call in [watched, fewest]:
            for deeds, due in [(["a", "Z", "A"], "Z"), (["", "A"], ""), (["z", "b b", "a", "A"], "b b"),
                               (["Z", "A", "Z"], "Z"), (["walk", "a" * 9, "1"], "a" * 9)]:
                self.assertEqual(told(refusal(call, watched_door(), deeds)), ("NoWord", {"word": due}))

    def test_words_are_taken(self):
        for deeds in [[], ["a"], ["zzzzzzzz"], ["walk", "walk"]]:
            self.assertIsNone(refusal(watched, watched_door(), deeds))
            self.assertIsNone(refusal(fewest, watched_door(), deeds))


class AgainstPlainSearch(unittest.TestCase):
    def test_many_small_machines(self):
        chance = random.Random(42)
        lengths = []
        for count in range(700):
            machine = some_machine(chance, 4, 9)
            deeds = [chance.choice(DEEDS + ["e"]) for place in range(chance.randint(0, 6))]
            answer = fewest(machine, deeds)
            self.assertEqual(answer, due_fewest(machine, deeds))
            lengths.append(None if answer is None else len(answer))
        for length in [None, 0, 1, 2]:
            self.assertGreater(lengths.count(length), 10, length)

    def test_machines_with_many_deeds(self):
        chance = random.Random(43)
        lengths = []
        for count in range(150):
            deeds = ["a", "ab", "b", "c", "d", "e", "f", "g"]
            rooms = [room for room in range(5) for place in range(3)]
            moves = [(room, chance.choice(deeds), chance.randrange(5)) for room in rooms]
            machine = Machine(5, [0], moves, {}, chance.choice([["f"], ["f", "g"], ["a", "f", "g"]]))
            some = chance.sample(deeds, 6)
            answer = fewest(machine, some)
            self.assertEqual(answer, due_fewest(machine, some))
            lengths.append(None if answer is None else len(answer))
        self.assertGreater(len([length for length in lengths if length is not None and length > 1]), 25)


if __name__ == "__main__":
    unittest.main()
