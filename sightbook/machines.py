"""Machines: rooms, the moves between them, the signs of their deeds and the faults."""

from sightbook.errors import NoRoom, NoWord, TooGreat

MOST_ROOMS = 8
MOST_MOVES = 24
MOST_LETTERS = 8
LETTERS = "abcdefghijklmnopqrstuvwxyz"


def is_word(text):
    return 1 <= len(text) <= MOST_LETTERS and all([letter in LETTERS for letter in text])


def need_at_most(number, most):
    if number > most:
        raise TooGreat(number, most)


def need_room(size, room):
    if not 0 <= room < size:
        raise NoRoom(room)


def need_word(text):
    if not is_word(text):
        raise NoWord(text)


# The order of these checks is promised: the first reason due is the one that is raised.
def need_machine(size, starts, moves, signs, faults):
    need_at_most(size, MOST_ROOMS)
    need_at_most(len(moves), MOST_MOVES)
    for room in starts:
        need_room(size, room)
    for first, deed, last in moves:
        need_room(size, first)
        need_word(deed)
        need_room(size, last)
    for deed, sign in signs.items():
        need_word(deed)
        need_word(sign)
    for deed in faults:
        need_word(deed)


class Machine:
    def __init__(self, size, starts, moves, signs, faults):
        need_machine(size, starts, moves, signs, faults)
        self.size = size
        self.start_rooms = sorted(set(starts))
        self.sorted_moves = sorted(set(moves))
        self.sign_by_deed = dict(signs)
        self.fault_deeds = sorted(set(faults))

    # Copies, so that what the asker does to them changes nothing here.
    def starts(self):
        return list(self.start_rooms)

    def moves(self):
        return list(self.sorted_moves)

    def signs(self):
        return dict(self.sign_by_deed)

    def faults(self):
        return list(self.fault_deeds)

    def sign_of(self, deed):
        return self.sign_by_deed.get(deed)

    def is_fault(self, deed):
        return deed in self.fault_deeds
