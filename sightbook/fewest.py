"""Which deeds must be seen."""

from sightbook.delays import delay
from sightbook.machines import Machine


def watched(machine, deeds):
    signs = {}
    for deed in deeds:
        signs[deed] = deed
    return Machine(machine.size, machine.starts(), machine.moves(), signs, machine.faults())


def has_delay(machine, deeds):
    return delay(watched(machine, deeds))[0] == "within"


# All lists of so many of the deeds; of deeds in order each list is in order, and so are the lists.
def lists_of(deeds, count):
    if count == 0:
        return [[]]
    lists = []
    for place, deed in enumerate(deeds):
        lists.extend([[deed] + rest for rest in lists_of(deeds[place + 1:], count - 1)])
    return lists


# Seeing more deeds never costs a delay, so where all of them give none, none of the lists need be tried.
def fewest(machine, deeds):
    if not has_delay(machine, deeds):
        return None
    each_once = sorted(set(deeds))
    for count in range(len(each_once)):
        for some in lists_of(each_once, count):
            if has_delay(machine, some):
                return some
    return each_once
