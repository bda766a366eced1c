"""Watchers, who see sign after sign."""

from sightbook.errors import NoSight
from sightbook.machines import Machine, need_at_most
from sightbook.watching import possible, verdict

MOST_SIGHTS = 40


class Watcher:
    # A machine of its own, so that nothing done to the one handed in changes what the watcher tells.
    def __init__(self, machine):
        self.machine = Machine(machine.size, machine.starts(), machine.moves(), machine.signs(), machine.faults())
        self.seen = []

    def see(self, sign):
        need_at_most(len(self.seen) + 1, MOST_SIGHTS)
        if not possible(self.machine, self.seen + [sign]):
            raise NoSight(sign)
        self.seen.append(sign)

    def rooms(self):
        return possible(self.machine, self.seen)

    def verdict(self):
        return verdict(self.machine, self.seen)

    def sights(self):
        return list(self.seen)
