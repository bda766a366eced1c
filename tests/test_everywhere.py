"""Points 1 to 3: what holds everywhere."""

import copy
import random
import unittest

from helper import FAR_NUMBERS, GREAT, refusal, some_machines, told, watched_door
from sightbook.delays import delay
from sightbook.errors import NoRoom, NoSight, NoWord, SightError, TooGreat
from sightbook.fewest import fewest, watched
from sightbook.machines import Machine
from sightbook.runs import has_fault, is_run, signs_of
from sightbook.secrets import secret
from sightbook.watchers import Watcher
from sightbook.watching import possible, run_to, run_with, verdict

DOOR_RUN = (0, [(0, "walk", 1), (1, "ring", 2), (2, "slip", 3), (3, "walk", 0)])


def parts():
    return [3, [2, 0, 2], [(2, "go", 1), (0, "go", 1), (1, "stay", 1), (0, "go", 1)],
            {"go": "step", "other": "noise"}, ["stay", "other", "stay"]]


def questions(machine):
    """All that can be asked, each as a call."""
    calls = [machine.starts, machine.moves, lambda: machine.size]
    for deed in ["go", "stay", "other", "step", "z"]:
        calls.append(lambda deed=deed: machine.sign_of(deed))
        calls.append(lambda deed=deed: machine.is_fault(deed))
    for run in [(0, []), (1, []), (0, [(0, "go", 1), (1, "stay", 1)]), (0, [(0, "go", 2)])]:
        calls.append(lambda run=run: is_run(machine, run))
    run = (2, [(2, "go", 1), (1, "stay", 1)])
    calls.append(lambda: signs_of(machine, run))
    calls.append(lambda: has_fault(machine, run))
    for sights in [[], ["step"], ["step", "step"], ["noise"]]:
        calls.append(lambda sights=sights: possible(machine, sights))
        calls.append(lambda sights=sights: verdict(machine, sights))
        for room in range(-1, 4):
            calls.append(lambda sights=sights, room=room: run_to(machine, sights, room))
        for fault in [True, False]:
            calls.append(lambda sights=sights, fault=fault: run_with(machine, sights, fault))
        calls.append(lambda sights=sights: watcher_behind(machine, sights))
    calls.append(lambda: delay(machine))
    for rooms in [[], [0], [1, 0, 1], [2], [3], list(range(machine.size))]:
        calls.append(lambda rooms=rooms: told(refusal(secret, machine, rooms)) or secret(machine, rooms))
    for deeds in [[], ["go"], ["stay", "go", "stay"], ["ring", "walk", "slip", "break"]]:
        calls.append(lambda deeds=deeds: watched(machine, deeds))
        calls.append(lambda deeds=deeds: delay(watched(machine, deeds)))
        calls.append(lambda deeds=deeds: fewest(machine, deeds))
    return calls


def watcher_behind(machine, sights):
    """All that a new watcher tells behind each of these signs, refused ones too."""
    watcher = Watcher(machine)
    found = [(watcher.rooms(), watcher.verdict(), watcher.sights())]
    for sign in sights:
        found.append((told(refusal(watcher.see, sign)), watcher.rooms(), watcher.verdict(), watcher.sights()))
    return found


def plain(thing):
    """A copy that can be compared: a machine by all that it tells."""
    if isinstance(thing, Machine):
        words = ["go", "stay", "other", "walk", "ring", "knock", "slip", "break", "step", "noise", "sound", "z"]
        return (thing.size, thing.starts(), thing.moves(),
                [(thing.sign_of(word), thing.is_fault(word)) for word in words])
    return copy.deepcopy(thing)


def answers(machine):
    return [plain(call()) for call in questions(machine)]


def spoil(thing):
    """Does to what was told whatever can be done to it."""
    if isinstance(thing, tuple):
        for part in thing:
            spoil(part)
    if isinstance(thing, list):
        for part in thing:
            spoil(part)
        thing.reverse()
        thing.append("spoiled")
        thing.extend([7, (0, "go", 0)])
    if isinstance(thing, Machine):
        thing.__init__(1, [], [(0, "spoiled", 0)], {"go": "spoiled"}, ["go", "walk"])


class HandedIn(unittest.TestCase):
    def test_making_changes_nothing(self):
        handed = parts()
        Machine(*handed)
        self.assertEqual(handed, parts())
        self.assertEqual(list(handed[3].items()), list(parts()[3].items()))

    def test_a_refused_making_changes_nothing(self):
        for place, bad in [(1, [0, 3]), (2, [(0, "go", 1), (0, "Go", 1)]), (3, {"go": ""}), (4, ["stay", "b d"])]:
            handed = parts()
            handed[place] = bad
            kept = copy.deepcopy(handed)
            self.assertIsNotNone(refusal(Machine, *handed))
            self.assertEqual(handed, kept)

    def test_changes_afterwards_change_no_answer(self):
        handed = parts()
        machine = Machine(*handed)
        before = answers(machine)
        handed[1].append(1)
        handed[1].reverse()
        handed[2].append((1, "go", 0))
        handed[2].pop(0)
        handed[3]["stay"] = "rest"
        handed[3]["go"] = "walk"
        handed[3].pop("other")
        handed[4].clear()
        handed[4].append("go")
        self.assertEqual(answers(machine), before)
        for thing in handed[1:]:
            thing.clear()
        self.assertEqual(answers(machine), before)

    def test_asking_changes_no_run_and_no_sights(self):
        machine = watched_door()
        run = copy.deepcopy(DOOR_RUN)
        is_run(machine, run)
        signs_of(machine, run)
        has_fault(machine, run)
        self.assertEqual(run, DOOR_RUN)
        for sights in [[], ["sound"], ["sound", "crash", "sound"], ["none", "sound"]]:
            kept = list(sights)
            possible(machine, sights)
            verdict(machine, sights)
            for room in range(-1, 5):
                run_to(machine, sights, room)
            run_with(machine, sights, True)
            run_with(machine, sights, False)
            self.assertEqual(sights, kept)

    def test_sights_and_runs_changed_afterwards(self):
        machine = watched_door()
        sights = ["sound"]
        rooms = possible(machine, sights)
        run = run_to(machine, sights, 3)
        kept = copy.deepcopy(run)
        sights.append("crash")
        self.assertEqual(rooms, [0, 1, 2, 3])
        self.assertEqual(run, kept)
        self.assertEqual(possible(machine, ["sound"]), rooms)
        self.assertEqual(possible(machine, sights), [0, 1])
        self.assertEqual(run_to(machine, ["sound"], 3), kept)
        walked = copy.deepcopy(DOOR_RUN)
        signs = signs_of(machine, walked)
        walked[1].clear()
        self.assertEqual(signs, ["sound"])

    def test_asking_changes_no_rooms_and_no_deeds(self):
        machine = watched_door()
        for rooms in [[], [3, 1, 1, 0], [2, 0, 1, 3, 2], [0, 9, 1], [-1]]:
            kept = list(rooms)
            refusal(secret, machine, rooms)
            self.assertEqual(rooms, kept)
        for deeds in [[], ["walk", "ring", "walk"], ["z", "slip", "break", "a"], ["walk", "B", "a"], [""]]:
            kept = list(deeds)
            refusal(watched, machine, deeds)
            refusal(fewest, machine, deeds)
            self.assertEqual(deeds, kept)

    def test_asking_changes_no_machine(self):
        machine = watched_door()
        before = plain(machine)
        for call in questions(machine):
            call()
            self.assertEqual(plain(machine), before)

    def test_rooms_and_deeds_changed_afterwards(self):
        machine = watched_door()
        rooms, deeds = [0, 1], ["slip", "ring"]
        given, seen, few = secret(machine, rooms), watched(machine, deeds), fewest(machine, deeds)
        kept = plain(given), plain(seen), plain(few)
        for thing in [rooms, deeds]:
            thing.clear()
        rooms.append(3)
        deeds.append("walk")
        self.assertEqual((plain(given), plain(seen), plain(few)), kept)

    def test_a_machine_changed_afterwards(self):
        for handed, same in [(Machine(*parts()), Machine(*parts())), (watched_door(), watched_door())]:
            seen, watcher, course = watched(handed, ["go", "walk"]), Watcher(handed), delay(handed)
            spoil(handed)
            self.assertEqual(answers(seen), answers(watched(same, ["go", "walk"])))
            self.assertEqual(course, delay(same))
            self.assertEqual((watcher.rooms(), watcher.verdict()), (possible(same, []), verdict(same, [])))


class ToldOnes(unittest.TestCase):
    def test_changing_what_was_told_changes_no_answer(self):
        machine = Machine(*parts())
        before = answers(machine)
        for call in questions(machine):
            spoil(call())
        self.assertEqual(answers(machine), before)

    def test_asking_later_changes_nothing_told(self):
        machine = Machine(*parts())
        first = [call() for call in questions(machine)]
        kept = [plain(thing) for thing in first]
        for thing in [call() for call in questions(machine)]:
            spoil(thing)
        self.assertEqual([plain(thing) for thing in first], kept)

    def test_asking_again_tells_the_same(self):
        machine = Machine(*parts())
        before = answers(machine)
        for count in range(3):
            self.assertEqual(answers(machine), before)
        calls = questions(machine)
        backwards = [plain(call()) for call in reversed(calls)]
        self.assertEqual(list(reversed(backwards)), before)

    def test_asking_many_machines_in_any_order(self):
        chance = random.Random(61)
        machines = [Machine(*parts()), watched_door()] + some_machines(62, 6, 5, 10)
        asked = [(call, plain(call())) for machine in machines for call in questions(machine)]
        for count in range(2):
            chance.shuffle(asked)
            for call, before in asked:
                answer = call()
                self.assertEqual(plain(answer), before)
                spoil(answer)

    def test_no_truth_value_is_told_as_a_number(self):
        machine = Machine(*parts())
        told_run = run_to(machine, ["step"], 1)
        numbers = [machine.size, told_run[0]] + machine.starts() + possible(machine, ["step"])
        for first, deed, last in machine.moves() + told_run[1]:
            numbers.extend([first, last])
        for x, y, rank in delay(watched_door())[2]:
            numbers.extend([x, y, rank])
        never = delay(machine)
        numbers.extend([never[2], never[4], delay(watched_door())[1], delay(Machine(1, [], [], {}, []))[1]])
        for rooms in secret(machine, [])[1] + [Watcher(machine).rooms()]:
            numbers.extend(rooms)
        for number in numbers:
            self.assertIs(type(number), int)


class TwoMachines(unittest.TestCase):
    def test_of_the_same_things(self):
        handed = parts()
        one = Machine(*handed)
        handed[3]["stay"] = "rest"
        handed[4].append("go")
        two = Machine(*handed)
        self.assertEqual(one.sign_of("stay"), None)
        self.assertEqual(two.sign_of("stay"), "rest")
        self.assertIs(one.is_fault("go"), False)
        self.assertIs(two.is_fault("go"), True)

    def test_asked_in_turns(self):
        one, two = Machine(*parts()), watched_door()
        one_alone, two_alone = answers(Machine(*parts())), answers(watched_door())
        for count in range(2):
            self.assertEqual(answers(one), one_alone)
            self.assertEqual(answers(two), two_alone)
        for call in questions(one):
            spoil(call())
        self.assertEqual(answers(two), two_alone)

    def test_a_refused_one_leaves_the_others(self):
        one = Machine(*parts())
        before = answers(one)
        for size, starts in [(9, []), (3, [3]), (3, [-1])]:
            self.assertIsNotNone(refusal(Machine, size, starts, [], {}, []))
        self.assertEqual(answers(one), before)

    def test_a_refused_making_anew_leaves_the_machine(self):
        one = Machine(*parts())
        before = answers(one)
        for place, bad in [(0, 9), (1, [5]), (2, [(0, "go", 9)]), (3, {"go": "UP"}), (4, ["no word"])]:
            handed = [2, [0], [], {}, []]
            handed[place] = bad
            self.assertIsNotNone(refusal(one.__init__, *handed))
            self.assertEqual(answers(one), before)


class FarThings(unittest.TestCase):
    def test_far_rooms_in_runs(self):
        machine = watched_door()
        for number in FAR_NUMBERS:
            self.assertIs(is_run(machine, (number, [])), False)
            self.assertIs(is_run(machine, (number, [(number, "walk", 1)])), False)
            self.assertIs(is_run(machine, (0, [(0, "walk", number)])), False)
            self.assertIs(is_run(machine, (0, [(number, "walk", 1)])), False)

    def test_any_texts_in_runs(self):
        machine = watched_door()
        for text in ["", " ", "~" * 60, "a" * 60, "walkwalk", "WALK", "walk ", "wal", '"', "\\"]:
            self.assertIs(is_run(machine, (0, [(0, text, 1)])), False)

    def test_far_rooms_to_go_to(self):
        machine = watched_door()
        for number in FAR_NUMBERS:
            self.assertIsNone(run_to(machine, ["sound"], number))

    def test_far_numbers_refused(self):
        for number in FAR_NUMBERS:
            self.assertEqual(told(refusal(Machine, 8, [number], [], {}, [])), ("NoRoom", {"room": number}))
            if number > 8:
                self.assertEqual(
                    told(refusal(Machine, number, [], [], {}, [])), ("TooGreat", {"number": number, "most": 8}))


class Errors(unittest.TestCase):
    def test_classes(self):
        kinds = [TooGreat, NoRoom, NoWord, NoSight]
        self.assertTrue(issubclass(SightError, ValueError))
        for kind in kinds:
            self.assertTrue(issubclass(kind, SightError))
            self.assertFalse(issubclass(SightError, kind))
            for other in kinds:
                self.assertEqual(issubclass(kind, other), kind == other)

    def test_fields_in_order(self):
        self.assertEqual(told(TooGreat(GREAT, -GREAT)), ("TooGreat", {"number": GREAT, "most": -GREAT}))
        for number in FAR_NUMBERS + [0]:
            self.assertEqual(told(NoRoom(number)), ("NoRoom", {"room": number}))
        for text in ["", " ", "~" * 60, "word", "'", '"', "\\", "{x}"]:
            self.assertEqual(told(NoWord(text)), ("NoWord", {"word": text}))
            self.assertEqual(told(NoSight(text)), ("NoSight", {"sign": text}))

    def test_sight_error_of_a_text(self):
        for text in ["", "any words", "~" * 60]:
            self.assertEqual(str(SightError(text)), text)

    def test_errors_can_be_shown(self):
        for error in [TooGreat(9, 8), NoRoom(-GREAT), NoWord(""), NoSight("{")]:
            self.assertTrue(str(error))

    def test_raised_and_taken_by_each_class_above(self):
        for kind in [NoRoom, SightError, ValueError]:
            with self.assertRaises(kind):
                Machine(1, [1], [], {}, [])


if __name__ == "__main__":
    unittest.main()
