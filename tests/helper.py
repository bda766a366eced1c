"""What the tests share: machines to ask, and plain answers to hold the program's against."""

import random

from sightbook.errors import SightError
from sightbook.machines import Machine

GREAT = 10 ** 60 - 1
FAR_NUMBERS = [-GREAT, -10 ** 59, -10 ** 30, -9, -1, 8, 9, 25, 10 ** 30, 10 ** 59, GREAT]
NO_WORDS = [
    "", "abcdefghi", "a" * 60, "A", "Abc", "abC", "ABC", "1", "a1", "1a", "0" * 60, " ", "a b", " a", "a ", " " * 60,
    "`", "{", "a`", "{a", "@", "[", "a-b", "a_b", "a.b", "~" * 60, "!", "'", '"', "\\",
]


def refusal(call, *things):
    """The error that the call raises, or None."""
    try:
        call(*things)
    except SightError as error:
        return error
    return None


def told(error):
    """The class of a refusal by its name, and its fields."""
    return None if error is None else (type(error).__name__, vars(error))


def watched_door():
    """A machine with unseen deeds, a shared sign, a fault that is unseen and one that is seen."""
    return Machine(
        4, [0],
        [(0, "walk", 1), (1, "ring", 2), (1, "knock", 2), (2, "slip", 3), (3, "walk", 0), (2, "break", 0)],
        {"ring": "sound", "knock": "sound", "break": "crash"}, ["slip", "break"])


def all_runs(machine, sights, most):
    """Every run of at most so many moves whose signs are a beginning of the sights, with its signs and its fault."""
    found = []
    front = [(start, [], start, [], False) for start in machine.starts()]
    for length in range(most + 1):
        found.extend(front)
        longer = []
        for start, moves, end, signs, fault in front:
            for move in machine.moves():
                sign = machine.sign_of(move[1])
                seen = signs if sign is None else signs + [sign]
                if move[0] == end and seen == sights[:len(seen)]:
                    longer.append((start, moves + [move], move[2], seen, fault or machine.is_fault(move[1])))
        front = longer
    return found


def enough_moves(machine, sights):
    """No room and no fault needs a longer run than this: a longer one goes round somewhere for nothing."""
    return (len(sights) + 1) * (machine.size - 1) + len(sights) + machine.size


def ends_by_runs(machine, sights):
    """All (room, fault) at which runs with just these signs end, by looking at the runs one by one."""
    runs = all_runs(machine, sights, enough_moves(machine, sights))
    return {(end, fault) for start, moves, end, signs, fault in runs if signs == sights}


def closed_by_unseen(machine, ends):
    grown = set(ends)
    while True:
        more = {(last, fault or machine.is_fault(deed)) for room, fault in grown
                for first, deed, last in machine.moves() if first == room and machine.sign_of(deed) is None}
        if more <= grown:
            return grown
        grown |= more


def ends_by_signs(machine, sights):
    """The same sign by sign, for sights and machines that have too many runs to look at."""
    ends = closed_by_unseen(machine, {(room, False) for room in machine.starts()})
    for sight in sights:
        ends = closed_by_unseen(machine, {
            (last, fault or machine.is_fault(deed)) for room, fault in ends
            for first, deed, last in machine.moves() if first == room and machine.sign_of(deed) == sight})
    return ends


def some_machine(chance, most_rooms, most_moves):
    size = chance.randint(1, most_rooms)
    deeds = ["a", "ab", "b", "c", "d"]
    moves = [(chance.randrange(size), chance.choice(deeds), chance.randrange(size))
             for count in range(chance.randint(0, most_moves))]
    signs = {deed: chance.choice(["x", "y", deed]) for deed in deeds if chance.random() < 0.5}
    faults = [deed for deed in deeds if chance.random() < 0.3]
    starts = [chance.randrange(size) for count in range(chance.choice([0, 1, 1, 1, 2]))]
    return Machine(size, starts, moves, signs, faults)


def some_machines(seed, count, most_rooms, most_moves):
    chance = random.Random(seed)
    return [some_machine(chance, most_rooms, most_moves) for place in range(count)]


def signs_in(machine):
    """The signs that the machine can give, and one that it never gives."""
    signs = {machine.sign_of(deed) for first, deed, last in machine.moves()} - {None}
    return sorted(signs) + ["never"]


def some_sights(machine, chance, length):
    """Sights that often have runs: those of a walk through the machine, now and then with a wrong one."""
    sights = []
    rooms = machine.starts()
    room = chance.choice(rooms) if rooms else 0
    for count in range(4 * length):
        moves = [move for move in machine.moves() if move[0] == room]
        if not moves or len(sights) == length:
            break
        move = chance.choice(moves)
        room = move[2]
        sign = machine.sign_of(move[1])
        if sign is not None:
            sights.append(sign)
    if sights and chance.random() < 0.2:
        sights[chance.randrange(len(sights))] = chance.choice(signs_in(machine))
    return sights


def walked(machine, run):
    """(end, signs, deeds behind the first fault or None) of a run of the machine; None where it is none."""
    start, moves = run
    if start not in machine.starts():
        return None
    room, signs, behind = start, [], None
    for move in moves:
        if move not in machine.moves() or move[0] != room:
            return None
        room = move[2]
        if machine.sign_of(move[1]) is not None:
            signs.append(machine.sign_of(move[1]))
        if behind is not None:
            behind += 1
        elif machine.is_fault(move[1]):
            behind = 0
    return room, signs, behind


def clear_closed(machine, rooms):
    """The rooms, and those that unseen deeds which are no faults lead to from there."""
    return frozenset(room for room, fault in closed_by_unseen(machine, {(room, False) for room in rooms}) if not fault)


def clear_behind(machine, clear, deed):
    """Where a run without a fault may be that kept up with the signs, once this deed was done too."""
    sign = machine.sign_of(deed)
    if sign is None:
        return clear
    return clear_closed(machine, {last for first, its, last in machine.moves()
                                  if first in clear and machine.sign_of(its) == sign and not machine.is_fault(its)})


class Followed:
    """A machine's places (room, clear rooms): where it may be, and where clear runs may be that kept up with it."""

    def __init__(self, machine):
        self.machine = machine
        self.known = {}

    def place(self, room, rooms):
        return room, clear_closed(self.machine, rooms)

    def steps(self, place):
        """The places one move on, with the deed; none where no clear run keeps up."""
        if place not in self.known:
            room, clear = place
            found = [(deed, (last, clear_behind(self.machine, clear, deed)))
                     for first, deed, last in self.machine.moves() if first == room]
            self.known[place] = [(deed, after) for deed, after in found if after[1]]
        return self.known[place]

    def moves_on(self, place):
        """How many moves can be made from there; None where there is no end of them."""
        front = {place}
        for count in range(self.machine.size ** 2 + 1):
            front = {after for before in front for deed, after in self.steps(before)}
            if not front:
                return count
        return None


def spread(front, steps):
    """All that the steps lead to from the front, and the front."""
    found = set(front)
    while front:
        front = {after for place in front for after in steps(place)} - found
        found |= front
    return found


def due_delay(machine):
    """The delay or None, and where there is one, the ranks of all met pairs: by the rooms where clear runs may be."""
    course = Followed(machine)
    ahead = spread({course.place(room, machine.starts()) for room in machine.starts()}, lambda place: [
        after for deed, after in course.steps(place) if not machine.is_fault(deed)])
    firsts = {after for place in ahead for deed, after in course.steps(place) if machine.is_fault(deed)}
    counts = []
    for place in firsts:
        counts.append(course.moves_on(place))
        if counts[-1] is None:
            return None, None
    met = spread(firsts, lambda place: [after for deed, after in course.steps(place)])
    pairs = {(room, other) for room, others in met for other in others}
    return max(counts, default=-1) + 1, {(x, y): course.moves_on(course.place(x, {y})) for x, y in pairs}
