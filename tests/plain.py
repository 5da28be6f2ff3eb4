"""What the tests hold the program against: plain goings-through, and piles that are the same at every run."""

import functools
import itertools


def all_settings(many):
    """Every setting, in the order of point 3: False goes ahead of True."""
    return [list(values) for values in itertools.product((False, True), repeat=many)]


def lit_true(lit, setting):
    on = setting[abs(lit) - 1]
    return on if lit > 0 else not on


def say_true(say, setting):
    return any(lit_true(lit, setting) for lit in say)


def good_settings(many, pile):
    return [setting for setting in all_settings(many) if all(say_true(say, setting) for say in pile)]


def first(settings):
    return settings[0] if settings else None


def all_lits(many):
    return [lit for switch in range(1, many + 1) for lit in (switch, -switch)]


def all_says(many):
    return list(itertools.product(all_lits(many), repeat=2))


def leads(pile, lit, follower):
    """Whether some statement of the pile gives the step from `lit` to `follower`."""
    return any((lit, follower) in ((-p, q), (-q, p)) for p, q in pile)


def step_counts(many, pile, start):
    """For each literal that a road from `start` leads to, how many steps the shortest takes."""
    counts = {start: 0}
    for count in range(1, 2 * many + 1):
        newest = [lit for lit in counts if counts[lit] == count - 1]
        for follower in all_lits(many):
            if follower not in counts and any(leads(pile, lit, follower) for lit in newest):
                counts[follower] = count
    return counts


def is_road(pile, lits):
    return len(lits) > 0 and all(leads(pile, lit, follower) for lit, follower in zip(lits, lits[1:]))


def is_ring(pile, lits):
    return is_road(pile, lits) and lits[0] == lits[-1] and any(-lit in lits for lit in lits)


def against(many, pile, say):
    return first([setting for setting in good_settings(many, pile) if not say_true(say, setting)])


def settled(many, pile):
    fitting = good_settings(many, pile)
    return [lit for lit in all_lits(many) if all(lit_true(lit, setting) for setting in fitting)]


def shows(pile, say, some_good, answer):
    """Whether `answer` is what point 8 asks for where the statement follows, its road or ring walked."""
    kind, lits = answer
    if some_good:
        return kind == "road" and is_road(pile, lits) and -lits[0] in say and lits[-1] in say
    return kind == "ring" and is_ring(pile, lits)


def thinned(pile, follows):
    """Point 10, with `follows(others, say)` telling what follows."""
    still_there = dict(enumerate(pile))
    for place, say in enumerate(pile):
        del still_there[place]
        if not follows(list(still_there.values()), say):
            still_there[place] = say
    return [still_there[place] for place in sorted(still_there)]


class Draws:
    """Numbers that look thrown, but are the same at every run and on every Python."""

    def __init__(self, seed):
        self.state = seed

    def below(self, bound):
        self.state = (self.state * 6364136223846793005 + 1442695040888963407) % 2 ** 64
        return (self.state >> 33) % bound

    def pick(self, choices):
        return choices[self.below(len(choices))]

    def pile(self, many, length):
        says = all_says(many)
        return [self.pick(says) for count in range(length)]

    def setting(self, many):
        return [self.below(2) == 1 for count in range(many)]


def drawn_piles(seed, rounds):
    """Pairs of `many` and a pile for it, with few switches; for some of them no setting is good."""
    draws = Draws(seed)
    pairs = []
    for count in range(rounds):
        many = 1 + draws.below(5)
        pairs.append((many, draws.pile(many, draws.below(3 * many + 1))))
    return pairs


def small_piles():
    """Every pile of up to three statements over one switch, and of up to two over two switches."""
    pairs = []
    for many, longest in ((1, 3), (2, 2)):
        for length in range(longest + 1):
            pairs.extend((many, list(pile)) for pile in itertools.product(all_says(many), repeat=length))
    return pairs


def shifted(lit, by):
    return lit + by if lit > 0 else lit - by


@functools.lru_cache(maxsize=None)
def block_good_settings(part):
    return good_settings(4, part)


def block_of(say):
    return (abs(say[0]) - 1) // 4


def follows_in_blocks(pile, say):
    """What follows from a pile over 60 switches, where every statement keeps to one block of four switches."""
    parts = [[] for block in range(15)]
    for other in pile:
        block = block_of(other)
        parts[block].append(tuple(shifted(lit, -4 * block) for lit in other))
    fitting = [block_good_settings(tuple(part)) for part in parts]
    asked = tuple(shifted(lit, -4 * block_of(say)) for lit in say)
    return [] in fitting or all(say_true(asked, setting) for setting in fitting[block_of(say)])


class Blocks:
    """A pile of 400 over 60 switches, in 15 blocks of four switches that no statement joins.

    So what holds of it can be told by going through the 16 settings of each block.
    """

    def __init__(self, seed):
        draws = Draws(seed)
        self.many = 60
        self.good = []
        parts = []
        for block in range(15):
            kept = [draws.setting(4) for count in range(3)]
            says = [say for say in all_says(4) if all(say_true(say, setting) for setting in kept)]
            part = [draws.pick(says) for count in range(26 + (block < 10))]
            self.good.append(good_settings(4, part))
            parts.append([tuple(shifted(lit, 4 * block) for lit in say) for say in part])
        self.pile = [say for row in itertools.zip_longest(*parts) for say in row if say is not None]

    def least(self):
        return sum((settings[0] for settings in self.good), [])

    def least_with(self, wishes):
        answer = []
        for block, settings in enumerate(self.good):
            asked = [shifted(lit, -4 * block) for lit in wishes if (abs(lit) - 1) // 4 == block]
            fitting = [setting for setting in settings if all(lit_true(lit, setting) for lit in asked)]
            if not fitting:
                return None
            answer.extend(fitting[0])
        return answer

    def settled(self):
        lits = []
        for block, settings in enumerate(self.good):
            lits.extend(shifted(lit, 4 * block) for lit in all_lits(4)
                        if all(lit_true(lit, setting) for setting in settings))
        return lits

    def next_good(self, setting):
        cut = [setting[4 * block:4 * block + 4] for block in range(15)]
        for block in reversed(range(15)):
            behind = [other for other in self.good[block] if other > cut[block]]
            ahead_good = all(cut[other] in self.good[other] for other in range(block))
            if behind and ahead_good:
                tail = [settings[0] for settings in self.good[block + 1:]]
                return sum(cut[:block] + [behind[0]] + tail, [])
        return None
