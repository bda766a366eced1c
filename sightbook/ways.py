"""Ways from place to place, by fewest steps: what all the searches here have in common.

A step is a tuple (label, place): what is noted of the step, and where it leads.
"""


# Each place reached, in the order of the fewest steps to it, with the place and the label of the step that led to it.
# Of several ways of as many steps the one is kept whose steps stand first, so sorted labels give the first in order.
def reach(starts, steps_from):
    came_by = {}
    for place in starts:
        came_by[place] = None
    front = list(came_by)
    while front:
        reached = []
        for place in front:
            for label, after in steps_from(place):
                if after not in came_by:
                    came_by[after] = (place, label)
                    reached.append(after)
        front = reached
    return came_by


# The place where the way begins, and the labels of its steps.
def way_to(came_by, place):
    labels = []
    while came_by[place] is not None:
        labels.append(came_by[place][1])
        place = came_by[place][0]
    labels.reverse()
    return (place, labels)
