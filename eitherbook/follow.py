"""What follows from a pile and what shows it, the settled literals, and the thinned pile."""

from eitherbook.errors import NoSetting
from eitherbook.steps import clash, road
from eitherbook.told import least, least_with


# With each step from x to y there is one from the flip of y to the flip of x. So where the roads from the two flips
# hold a literal and its flip, one of them, turned round, goes on from the other to an end that is asked for.
def road_for(pile, say):
    for start in (-say[0], -say[1]):
        for goal in say:
            found = road(pile, start, goal)
            if found is not None:
                return found
    return None


def why(many, pile, say):
    ring = clash(many, pile)
    if ring is not None:
        return ("ring", ring)
    found = road_for(pile, say)
    if found is not None:
        return ("road", found)
    return None


def against(many, pile, say):
    return least_with(many, pile, [-say[0], -say[1]])


def settled(many, pile):
    if least(many, pile) is None:
        raise NoSetting("no setting is good for the pile")
    lits = []
    for switch in range(1, many + 1):
        for lit in (switch, -switch):
            if least_with(many, pile, [-lit]) is None:
                lits.append(lit)
    return lits


def thin(many, pile):
    left = []
    for place, say in enumerate(pile):
        others = left + pile[place + 1:]
        if against(many, others, say) is not None:
            left.append(say)
    return left
