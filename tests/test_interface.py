"""The names, arguments and kinds of the interface."""

import inspect
import unittest

from sightbook import delays, errors, fewest, machines, runs, secrets, watchers, watching


def arguments(thing):
    return list(inspect.signature(thing).parameters)


class Interface(unittest.TestCase):
    def test_functions(self):
        for thing, names in [
            (runs.is_run, ["machine", "run"]),
            (runs.signs_of, ["machine", "run"]),
            (runs.has_fault, ["machine", "run"]),
            (watching.possible, ["machine", "sights"]),
            (watching.verdict, ["machine", "sights"]),
            (watching.run_to, ["machine", "sights", "room"]),
            (watching.run_with, ["machine", "sights", "fault"]),
            (delays.delay, ["machine"]),
            (secrets.secret, ["machine", "rooms"]),
            (fewest.watched, ["machine", "deeds"]),
            (fewest.fewest, ["machine", "deeds"]),
        ]:
            self.assertEqual(arguments(thing), names)

    def test_classes(self):
        for thing, names in [
            (machines.Machine, ["size", "starts", "moves", "signs", "faults"]),
            (errors.TooGreat, ["number", "most"]),
            (errors.NoRoom, ["room"]),
            (errors.NoWord, ["word"]),
            (errors.NoSight, ["sign"]),
            (watchers.Watcher, ["machine"]),
        ]:
            self.assertEqual(arguments(thing), names)

    def test_methods(self):
        machine = machines.Machine(2, [0], [(0, "go", 1)], {"go": "gone"}, ["go"])
        watcher = watchers.Watcher(machine)
        for method, names in [
            (machine.starts, []), (machine.moves, []), (machine.sign_of, ["deed"]), (machine.is_fault, ["deed"]),
            (watcher.see, ["sign"]), (watcher.rooms, []), (watcher.verdict, []), (watcher.sights, []),
        ]:
            self.assertEqual(arguments(method), names)

    def test_by_name(self):
        machine = machines.Machine(size=2, starts=[0], moves=[(0, "go", 1)], signs={"go": "gone"}, faults=["go"])
        run = (0, [(0, "go", 1)])
        self.assertEqual(machine.size, 2)
        self.assertEqual(machine.sign_of(deed="go"), "gone")
        self.assertIs(machine.is_fault(deed="go"), True)
        self.assertIs(runs.is_run(machine=machine, run=run), True)
        self.assertEqual(runs.signs_of(machine=machine, run=run), ["gone"])
        self.assertIs(runs.has_fault(machine=machine, run=run), True)
        self.assertEqual(watching.possible(machine=machine, sights=["gone"]), [1])
        self.assertEqual(watching.verdict(machine=machine, sights=["gone"]), "sure")
        self.assertEqual(watching.run_to(machine=machine, sights=["gone"], room=1), run)
        self.assertEqual(watching.run_with(machine=machine, sights=["gone"], fault=True), run)
        self.assertEqual(delays.delay(machine=machine), ("within", 0, [], None))
        self.assertEqual(secrets.secret(machine=machine, rooms=[1]), ("given", ["gone"]))
        self.assertEqual(fewest.watched(machine=machine, deeds=["go"]).sign_of("go"), "go")
        self.assertEqual(fewest.fewest(machine=machine, deeds=["go"]), [])
        watcher = watchers.Watcher(machine=machine)
        self.assertIsNone(watcher.see(sign="gone"))
        self.assertEqual((watcher.rooms(), watcher.verdict(), watcher.sights()), ([1], "sure", ["gone"]))


if __name__ == "__main__":
    unittest.main()
