"""Whether a secret, some of the rooms, is ever given away by what a watcher sees."""

from sightbook.machines import need_room
from sightbook.ways import reach, way_to


# The rooms, and those reached from them by unseen deeds, as a tuple in order.
def with_unseen(machine, rooms):
    unseen = [move for move in machine.moves() if machine.sign_of(move[1]) is None]
    found = reach(rooms, lambda room: [(move, move[2]) for move in unseen if move[0] == room])
    return tuple(sorted(found))


# The signs that can come next, in order, each with the rooms possible behind it.
def signs_from(machine, rooms):
    lasts_by_sign = {}
    for first, deed, last in machine.moves():
        sign = machine.sign_of(deed)
        if sign is not None and first in rooms:
            lasts_by_sign.setdefault(sign, []).append(last)
    return [(sign, with_unseen(machine, lasts_by_sign[sign])) for sign in sorted(lasts_by_sign)]


# No rooms are no place to go on from, so where nothing is possible nothing is found.
def first_sets(machine):
    rooms = with_unseen(machine, machine.starts())
    return [rooms] if rooms else []


def secret(machine, rooms):
    for room in rooms:
        need_room(machine.size, room)
    came_by = reach(first_sets(machine), lambda found: signs_from(machine, found))
    for found in came_by:
        if all([room in rooms for room in found]):
            return ("given", way_to(came_by, found)[1])
    return ("kept", [list(found) for found in sorted(came_by)])
