"""How soon a fault is sure.

Two runs with the same signs are gone side by side, over pairs (x, y): where the one is, which may make faults, and
where the other is, which makes none. A step of such a walk is labelled (mine, its): the move of the one and the move
of the other, None for the one of them that stands still.
"""

from sightbook.ways import reach, way_to


def moves_from(machine, room):
    return [move for move in machine.moves() if move[0] == room]


def clear_moves_from(machine, room):
    return [move for move in moves_from(machine, room) if not machine.is_fault(move[1])]


def steps_of_pair(machine, x, y):
    steps = []
    clear = clear_moves_from(machine, y)
    for mine in moves_from(machine, x):
        sign = machine.sign_of(mine[1])
        if sign is None:
            steps.append(((mine, None), (mine[2], y)))
        else:
            for its in [move for move in clear if machine.sign_of(move[1]) == sign]:
                steps.append(((mine, its), (mine[2], its[2])))
    for its in [move for move in clear if machine.sign_of(move[1]) is None]:
        steps.append(((None, its), (x, its[2])))
    return steps


# A dict from each pair to its steps.
def step_table(machine):
    table = {}
    for x in range(machine.size):
        for y in range(machine.size):
            table[(x, y)] = steps_of_pair(machine, x, y)
    return table


def start_pairs(machine):
    pairs = []
    for x in machine.starts():
        pairs.extend([(x, y) for y in machine.starts()])
    return pairs


def is_fault_step(machine, label):
    return label[0] is not None and machine.is_fault(label[0][1])


def steps_without_fault(machine, steps):
    return [step for step in steps if not is_fault_step(machine, step[0])]


def steps_of_the_one(steps):
    return [step for step in steps if step[0][0] is not None]


def steps_of_the_other_alone(steps):
    return [step for step in steps if step[0][0] is None]


# The pairs where the one can be just behind its first fault, each with the start pair of a walk there and its labels.
def first_fault_walks(machine, table):
    ahead = reach(start_pairs(machine), lambda pair: steps_without_fault(machine, table[pair]))
    walks = {}
    for pair in ahead:
        for label, after in table[pair]:
            if is_fault_step(machine, label) and after not in walks:
                way = way_to(ahead, pair)
                walks[after] = (way[0], way[1] + [label])
    return walks


# The pairs reached from this one while the one stands still.
def reach_of_the_other(table, pair):
    return reach([pair], lambda place: steps_of_the_other_alone(table[place]))


def pairs_one_move_on(table, pair):
    pairs = {}
    for place in reach_of_the_other(table, pair):
        for label, after in steps_of_the_one(table[place]):
            pairs[after] = True
    return list(pairs)


# A pair gets its rank in the round behind the last of those that it leads to. One that leads into a ring gets none.
def ranks_of(table, met):
    leads = [(pair, pairs_one_move_on(table, pair)) for pair in met]
    ranks = {}
    count = 0
    ready = list(met)
    while ready:
        waiting = [lead for lead in leads if lead[0] not in ranks]
        ready = [pair for pair, afters in waiting if all([after in ranks for after in afters])]
        for pair in ready:
            ranks[pair] = count
        count += 1
    return ranks


# The labels of the steps to a pair of the next lower rank, by one move of the one, and that pair.
def one_rank_down(table, ranks, pair):
    came_by = reach_of_the_other(table, pair)
    downs = []
    for place in came_by:
        for label, after in steps_of_the_one(table[place]):
            if ranks[after] == ranks[pair] - 1:
                downs.append((way_to(came_by, place)[1] + [label], after))
    return downs[0]


def labels_downwards(table, ranks, pair):
    labels = []
    while ranks[pair] > 0:
        down = one_rank_down(table, ranks, pair)
        labels.extend(down[0])
        pair = down[1]
    return labels


# The labels of a walk from the pair back to it on which the one moves, or None.
def ring_at(table, pair):
    came_by = reach([pair], lambda place: table[place])
    for place in came_by:
        for label, after in steps_of_the_one(table[place]):
            if after == pair:
                return way_to(came_by, place)[1] + [label]
    return None


def moves_of_the_one(labels):
    return [mine for mine, its in labels if mine is not None]


def moves_of_the_other(labels):
    return [its for mine, its in labels if its is not None]


def runs_of(start, labels):
    return ((start[0], moves_of_the_one(labels)), (start[1], moves_of_the_other(labels)))


# No pair comes twice ahead of the first fault, nor twice behind it: with 64 pairs at most 63 steps, the fault, and
# 63 steps more, and each step is at most one move of each run.
def told_within(table, walks, ranks):
    told_ranks = sorted([(pair[0], pair[1], ranks[pair]) for pair in ranks])
    if not walks:
        return ("within", 0, told_ranks, None)
    top = max(list(walks), key=lambda pair: ranks[pair])
    labels = walks[top][1] + labels_downwards(table, ranks, top)
    return ("within", ranks[top] + 1, told_ranks, runs_of(walks[top][0], labels))


# As many steps as above to the ring, and at most 64 round it: 191.
def told_never(walks, met, pair, ring):
    way = way_to(met, pair)
    start = walks[way[0]][0]
    stem = walks[way[0]][1] + way[1]
    runs = runs_of(start, stem + ring)
    return ("never", runs[0], len(moves_of_the_one(stem)), runs[1], len(moves_of_the_other(stem)))


def delay(machine):
    table = step_table(machine)
    walks = first_fault_walks(machine, table)
    met = reach(list(walks), lambda pair: table[pair])
    ranks = ranks_of(table, met)
    for pair in met:
        if pair not in ranks:
            ring = ring_at(table, pair)
            if ring is not None:
                return told_never(walks, met, pair, ring)
    return told_within(table, walks, ranks)
