"""Steps between literals, shortest roads over them, and the ring of a pile that no setting is good for."""


def add_step(table, lit, follower):
    followers = table.setdefault(lit, [])
    if follower not in followers:
        followers.append(follower)


# The steps of the whole pile at once, so that a walk over many literals reads the pile only one time.
def step_table(pile):
    table = {}
    for p, q in pile:
        add_step(table, -p, q)
        add_step(table, -q, p)
    return table


def steps_from(pile, lit):
    return step_table(pile).get(lit, [])


def next_layer(table, layer, came_from):
    reached = []
    for lit in layer:
        for follower in table.get(lit, []):
            if follower not in came_from:
                came_from[follower] = lit
                reached.append(follower)
    return reached


def traced_back(came_from, goal):
    trace = []
    lit = goal
    while lit is not None:
        trace.append(lit)
        lit = came_from[lit]
    return list(reversed(trace))


# Going on layer by layer, a literal is first met with as few steps as any, so the trace back from it is shortest.
def shortest(table, start, goal):
    came_from = {start: None}
    layer = [start]
    while layer and goal not in came_from:
        layer = next_layer(table, layer, came_from)
    if goal not in came_from:
        return None
    return traced_back(came_from, goal)


def road(pile, start, goal):
    return shortest(step_table(pile), start, goal)


# A ring that holds both literals of a switch leads from each of them to the other,
# so it is enough to look for those two roads, switch by switch.
def clash(many, pile):
    table = step_table(pile)
    for switch in range(1, many + 1):
        there = shortest(table, switch, -switch)
        back = shortest(table, -switch, switch)
        if there is not None and back is not None:
            return there + back[1:]
    return None
