"""Runs of a machine: tuples of the room where a run begins and the list of its moves."""


def is_run(machine, run):
    moves = machine.moves()
    room = run[0]
    if room not in machine.starts():
        return False
    for move in run[1]:
        if move[0] != room or move not in moves:
            return False
        room = move[2]
    return True


def signs_of(machine, run):
    signs = [machine.sign_of(deed) for first, deed, last in run[1]]
    return [sign for sign in signs if sign is not None]


def has_fault(machine, run):
    return any([machine.is_fault(deed) for first, deed, last in run[1]])
