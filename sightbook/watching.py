"""What a watcher knows behind some sights.

All answers come of one search over states (seen, room, faulty): how many of the sights have been seen,
where the machine is, and whether a fault has come by then.
"""

from sightbook.ways import reach, way_to


# None where the deed has a sign that is not the one due.
def seen_after(machine, sights, seen, deed):
    sign = machine.sign_of(deed)
    if sign is None:
        return seen
    if seen < len(sights) and sights[seen] == sign:
        return seen + 1
    return None


def steps_from(machine, sights, seen, room, faulty):
    steps = []
    for move in machine.moves():
        if move[0] == room:
            after = seen_after(machine, sights, seen, move[1])
            if after is not None:
                steps.append((move, (after, move[2], faulty or machine.is_fault(move[1]))))
    return steps


# Going by fewest moves keeps the told runs short: with 40 sights and 8 rooms there are 41 stretches between signs
# of at most 7 unseen moves each, and one stretch may be gone twice for the sake of a fault: at most 335 moves.
def search(machine, sights):
    starts = [(0, room, False) for room in machine.starts()]
    return reach(starts, lambda state: steps_from(machine, sights, state[0], state[1], state[2]))


def ends_of(came_by, sights):
    return [state for state in came_by if state[0] == len(sights)]


def run_back(came_by, state):
    way = way_to(came_by, state)
    return (way[0][1], way[1])


def possible(machine, sights):
    ends = ends_of(search(machine, sights), sights)
    return sorted(set([room for seen, room, faulty in ends]))


def verdict(machine, sights):
    ends = ends_of(search(machine, sights), sights)
    faults = [faulty for seen, room, faulty in ends]
    if not faults:
        return "never"
    if all(faults):
        return "sure"
    if any(faults):
        return "maybe"
    return "clear"


def run_to(machine, sights, room):
    came_by = search(machine, sights)
    for state in ends_of(came_by, sights):
        if state[1] == room:
            return run_back(came_by, state)
    return None


def run_with(machine, sights, fault):
    came_by = search(machine, sights)
    for state in ends_of(came_by, sights):
        if state[2] == fault:
            return run_back(came_by, state)
    return None
