"""What is true in a setting, and the first good settings of a pile."""

from eitherbook.steps import step_table


def is_true(lit, setting):
    return setting[abs(lit) - 1] == (lit > 0)


def holds(say, setting):
    return is_true(say[0], setting) or is_true(say[1], setting)


def good(pile, setting):
    return all([holds(say, setting) for say in pile])


# The known literals, the new ones and all that steps lead to from these; None where that would make a switch
# both on and off.
def grown(table, known, lits):
    found = dict(known)
    waiting = list(lits)
    while waiting:
        lit = waiting.pop()
        if -lit in found:
            return None
        if lit not in found:
            found[lit] = True
            waiting.extend(table.get(lit, []))
    return found


def with_switch(table, known, switch):
    if switch in known or -switch in known:
        return known
    off = grown(table, known, [-switch])
    if off is not None:
        return off
    return grown(table, known, [switch])


# What is known always holds all that follows from it by steps. So each statement is true by it already or speaks of
# other switches alone, and a switch put off without a contradiction never has to be taken back.
def first_good(many, table, wishes):
    known = grown(table, {}, wishes)
    for switch in range(1, many + 1):
        if known is None:
            return None
        known = with_switch(table, known, switch)
    if known is None:
        return None
    return [switch in known for switch in range(1, many + 1)]


def least(many, pile):
    return first_good(many, step_table(pile), [])


def least_with(many, pile, wishes):
    return first_good(many, step_table(pile), wishes)


def lits_of(setting):
    return [switch if on else -switch for switch, on in enumerate(setting, start=1)]


# A setting behind the given one parts from it at a switch that is off there and on here. The later they part,
# the further ahead it stands, so the last switch is tried first.
def next_good(many, pile, setting):
    table = step_table(pile)
    for switch in range(many, 0, -1):
        if not setting[switch - 1]:
            found = first_good(many, table, lits_of(setting[:switch - 1]) + [switch])
            if found is not None:
                return found
    return None
