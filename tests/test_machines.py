"""Points 4 and 5: machines, and what making one refuses."""

import itertools
import unittest

from helper import FAR_NUMBERS, GREAT, NO_WORDS, refusal, told
from sightbook.machines import Machine

GOOD_WORDS = ["a", "z", "m", "ab", "abc", "abcdefgh", "zzzzzzzz", "aaaaaaaa", "az", "za"]


def good_parts():
    return {"size": 8, "starts": [0, 7], "moves": [(0, "go", 7), (7, "back", 0)],
            "signs": {"go": "gone", "back": "home"}, "faults": ["go"]}


def made(parts):
    return told(refusal(Machine, parts["size"], parts["starts"], parts["moves"], parts["signs"], parts["faults"]))


def bad_move(parts, place, thing):
    """Spoils one place of the one move that all these reasons share."""
    move = list(parts["moves"][1])
    move[place] = thing
    parts["moves"][1] = tuple(move)


def bad_sign_pair(parts, deed, sign):
    old_deed, old_sign = list(parts["signs"].items())[-1]
    parts["signs"].pop(old_deed)
    parts["signs"][old_deed if deed is None else deed] = old_sign if sign is None else sign


def twenty_five(parts):
    parts["moves"].extend([(0, "go", 7)] * 23)


# Each reason alone, in the order in which point 5 tells them: what it does to good parts, and what is raised.
REASONS = [
    ("size", lambda parts: parts.update(size=9), ("TooGreat", {"number": 9, "most": 8})),
    ("count", twenty_five, ("TooGreat", {"number": 25, "most": 24})),
    ("start", lambda parts: parts["starts"].extend([11, 12]), ("NoRoom", {"room": 11})),
    ("first", lambda parts: bad_move(parts, 0, 13), ("NoRoom", {"room": 13})),
    ("deed", lambda parts: bad_move(parts, 1, "Deed"), ("NoWord", {"word": "Deed"})),
    ("last", lambda parts: bad_move(parts, 2, -14), ("NoRoom", {"room": -14})),
    ("dict deed", lambda parts: bad_sign_pair(parts, "Dict deed", None), ("NoWord", {"word": "Dict deed"})),
    ("dict sign", lambda parts: bad_sign_pair(parts, None, "Dict sign"), ("NoWord", {"word": "Dict sign"})),
    ("fault", lambda parts: parts["faults"].extend(["Fault", "Fault2"]), ("NoWord", {"word": "Fault"})),
]


class Machines(unittest.TestCase):
    def test_doubles_and_order(self):
        machine = Machine(
            4, [3, 0, 3, 2, 0], [(2, "b", 1), (2, "a", 3), (0, "z", 0), (2, "b", 1), (2, "b", 0), (0, "z", 0)], {}, [])
        self.assertEqual(machine.starts(), [0, 2, 3])
        self.assertEqual(machine.moves(), [(0, "z", 0), (2, "a", 3), (2, "b", 0), (2, "b", 1)])
        self.assertEqual(machine.size, 4)

    def test_moves_in_the_order_of_tuples(self):
        moves = [(room, deed, last) for room in range(2) for deed in ["a", "aa", "ab", "b"] for last in range(3)]
        self.assertEqual(Machine(3, [], list(reversed(moves)), {}, []).moves(), moves)

    def test_the_kinds_told(self):
        machine = Machine(2, [1], [(1, "a", 0)], {"a": "s"}, ["a"])
        self.assertIs(type(machine.starts()), list)
        self.assertIs(type(machine.moves()), list)
        self.assertIs(type(machine.moves()[0]), tuple)
        self.assertIs(machine.is_fault("a"), True)
        self.assertIs(machine.is_fault("b"), False)

    def test_nothing_in_it(self):
        for size in range(1, 9):
            machine = Machine(size, [], [], {}, [])
            self.assertEqual((machine.size, machine.starts(), machine.moves()), (size, [], []))
            self.assertIsNone(machine.sign_of("a"))
            self.assertIs(machine.is_fault("a"), False)

    def test_sizes_one_and_eight(self):
        self.assertEqual(Machine(1, [0], [(0, "a", 0)], {}, []).moves(), [(0, "a", 0)])
        self.assertEqual(Machine(8, list(range(8)), [(7, "a", 0)], {}, []).starts(), list(range(8)))

    def test_deeds_that_no_move_has(self):
        machine = Machine(1, [0], [(0, "a", 0)], {"b": "seen"}, ["c"])
        self.assertEqual([machine.sign_of(deed) for deed in "abc"], [None, "seen", None])
        self.assertEqual([machine.is_fault(deed) for deed in "abc"], [False, False, True])

    def test_signs_shared_and_own(self):
        machine = Machine(1, [0], [], {"a": "s", "b": "s", "c": "c", "d": "a"}, ["a", "a"])
        self.assertEqual([machine.sign_of(deed) for deed in "abcds"], ["s", "s", "c", "a", None])
        self.assertEqual([machine.is_fault(deed) for deed in "abcds"], [True, False, False, False, False])

    def test_words_that_begin_another(self):
        words = ["abcdefgh"[:length] for length in range(1, 9)]
        machine = Machine(1, [0], [(0, word, 0) for word in words], {word: word for word in words[::2]}, words[1::3])
        self.assertEqual(machine.moves(), [(0, word, 0) for word in words])
        for place, word in enumerate(words):
            self.assertEqual(machine.sign_of(word), word if place % 2 == 0 else None)
            self.assertIs(machine.is_fault(word), place % 3 == 1)

    def test_good_words_everywhere(self):
        for word in GOOD_WORDS:
            machine = Machine(1, [0], [(0, word, 0)], {word: word}, [word])
            self.assertEqual(machine.moves(), [(0, word, 0)])
            self.assertEqual(machine.sign_of(word), word)
            self.assertIs(machine.is_fault(word), True)

    def test_each_letter(self):
        for letter in "abcdefghijklmnopqrstuvwxyz":
            self.assertIsNone(refusal(Machine, 1, [], [(0, letter, 0)], {letter: letter}, [letter]))

    def test_sixty_entries(self):
        words = [first + second for first in "abcdef" for second in "abcdefghij"]
        machine = Machine(8, [7, 3] * 30, [], {word: "s" for word in words}, words)
        self.assertEqual(machine.starts(), [3, 7])
        self.assertTrue(all(machine.sign_of(word) == "s" and machine.is_fault(word) for word in words))


class Refusals(unittest.TestCase):
    def test_good_parts_are_taken(self):
        self.assertIsNone(made(good_parts()))

    def test_each_alone(self):
        for name, spoil, due in REASONS:
            with self.subTest(name):
                parts = good_parts()
                spoil(parts)
                self.assertEqual(made(parts), due)

    def test_each_pair(self):
        for (name, spoil, due), (later_name, later_spoil, later_due) in itertools.combinations(REASONS, 2):
            with self.subTest(f"{name} ahead of {later_name}"):
                parts = good_parts()
                later_spoil(parts)
                spoil(parts)
                self.assertEqual(made(parts), due)

    def test_all_from_each_on(self):
        for place in range(len(REASONS)):
            parts = good_parts()
            for name, spoil, due in REASONS[place:]:
                spoil(parts)
            self.assertEqual(made(parts), REASONS[place][2])

    def test_move_by_move(self):
        spoiled = [((9, "go", 0), ("NoRoom", {"room": 9})), ((0, "GO", 0), ("NoWord", {"word": "GO"})),
                   ((0, "go", 8), ("NoRoom", {"room": 8}))]
        for (move, due), (later, later_due) in itertools.permutations(spoiled, 2):
            parts = good_parts()
            parts["moves"] = [(0, "go", 0), move, later]
            self.assertEqual(made(parts), due)

    def test_as_the_dict_is_walked(self):
        parts = good_parts()
        parts["signs"] = {"go": "", "BAD": "home"}
        self.assertEqual(made(parts), ("NoWord", {"word": ""}))
        parts["signs"] = {"BAD": "", "go": "Worse"}
        self.assertEqual(made(parts), ("NoWord", {"word": "BAD"}))
        parts["signs"] = {"zoo": "Z", "ant": "A"}
        self.assertEqual(made(parts), ("NoWord", {"word": "Z"}))

    def test_the_first_start_and_the_first_fault(self):
        parts = good_parts()
        parts["starts"] = [0, 9, -1, 8]
        self.assertEqual(made(parts), ("NoRoom", {"room": 9}))
        parts = good_parts()
        parts["faults"] = ["go", "zZ", "aA"]
        self.assertEqual(made(parts), ("NoWord", {"word": "zZ"}))

    def test_sizes(self):
        for size in range(1, 9):
            self.assertIsNone(refusal(Machine, size, [], [], {}, []))
        for size in [9, 10, 25, 10 ** 59, GREAT]:
            error = told(refusal(Machine, size, [], [], {}, []))
            self.assertEqual(error, ("TooGreat", {"number": size, "most": 8}))

    def test_counts_of_moves(self):
        many = [(room, deed, 0) for room in range(8) for deed in ["a", "b", "c"]]
        self.assertEqual(Machine(8, [], many, {}, []).moves(), many)
        self.assertEqual(Machine(8, [], [(0, "a", 0)] * 24, {}, []).moves(), [(0, "a", 0)])
        for moves in [many + [(0, "d", 0)], many + [(0, "a", 0)], [(0, "a", 0)] * 25, [(0, "a", 0)] * 60]:
            error = told(refusal(Machine, 8, [], moves, {}, []))
            self.assertEqual(error, ("TooGreat", {"number": len(moves), "most": 24}))

    def test_rooms_that_are_none(self):
        for size in range(1, 9):
            for number in [-1, -size, size, size + 1] + FAR_NUMBERS:
                due = ("NoRoom", {"room": number})
                self.assertEqual(told(refusal(Machine, size, [number], [], {}, [])), due)
                self.assertEqual(told(refusal(Machine, size, [], [(number, "a", 0)], {}, [])), due)
                self.assertEqual(told(refusal(Machine, size, [], [(0, "a", number)], {}, [])), due)
            for number in range(size):
                self.assertIsNone(refusal(Machine, size, [number], [(number, "a", number)], {}, []))

    def test_texts_that_are_no_words(self):
        for text in NO_WORDS:
            due = ("NoWord", {"word": text})
            self.assertEqual(told(refusal(Machine, 1, [], [(0, text, 0)], {}, [])), due)
            self.assertEqual(told(refusal(Machine, 1, [], [], {text: "a"}, [])), due)
            self.assertEqual(told(refusal(Machine, 1, [], [], {"a": text}, [])), due)
            self.assertEqual(told(refusal(Machine, 1, [], [], {}, [text])), due)

    def test_every_sign_that_is_no_small_letter(self):
        for code in range(ord(" "), ord("~") + 1):
            sign = chr(code)
            for text in [sign, "a" + sign, sign + "a"]:
                error = told(refusal(Machine, 1, [], [], {}, [text]))
                self.assertEqual(error, None if "a" <= sign <= "z" else ("NoWord", {"word": text}))


if __name__ == "__main__":
    unittest.main()
