"""Point 1: nothing that is handed in is changed or kept, and what is answered is the caller's own."""

import copy
import unittest

from eitherbook.follow import against, settled, thin, why
from eitherbook.lines import read, shown
from eitherbook.steps import clash, road, steps_from
from eitherbook.told import good, holds, least, least_with, next_good
from tests import plain

PILE = [(-1, 2), (-2, 3), (1, 1), (-1, 2), (4, -4), (-3, 2)]
RING_PILE = [(1, 2), (1, -2), (-1, 2), (-1, -2), (1, 2)]
SETTING = [False, True, False, False]

CALLS = (
    (steps_from, (PILE, 2)),
    (steps_from, (PILE, 4)),
    (steps_from, (PILE, -2)),
    (steps_from, ([], 1)),
    (road, (PILE, 1, 3)),
    (road, (PILE, 1, 1)),
    (road, (PILE, 3, -1)),
    (road, ([], 1, 1)),
    (clash, (4, PILE)),
    (clash, (2, RING_PILE)),
    (holds, (PILE[0], SETTING)),
    (good, (PILE, SETTING)),
    (good, ([], SETTING)),
    (least, (4, PILE)),
    (least, (2, RING_PILE)),
    (least, (4, [])),
    (least_with, (4, PILE, [4, 2])),
    (least_with, (4, PILE, [])),
    (least_with, (4, PILE, [4, -4])),
    (next_good, (4, PILE, SETTING)),
    (next_good, (4, [], SETTING)),
    (next_good, (4, PILE, [True] * 4)),
    (next_good, (2, RING_PILE, [False, False])),
    (why, (4, PILE, (-1, 3))),
    (why, (4, PILE, (4, 4))),
    (why, (4, [], (4, -4))),
    (why, (2, RING_PILE, (1, 2))),
    (against, (4, PILE, (4, 4))),
    (against, (4, PILE, (1, 3))),
    (against, (4, [], (-1, -2))),
    (settled, (4, PILE)),
    (settled, (4, [])),
    (thin, (4, PILE)),
    (thin, (2, RING_PILE)),
    (thin, (2, RING_PILE[1:])),
    (thin, (4, [])),
    (shown, ((1, -2),)),
    (read, ("not 1",)),
    (read, ("1 or 2",)),
    (read, ("1 then 2",)),
    (read, ("1 as 2",)),
    (read, ("1 unlike 2",)),
)


def list_in(answer):
    """The list that an answer is or, behind a word in a tuple, holds."""
    part = answer[1] if isinstance(answer, tuple) else answer
    return part if isinstance(part, list) else None


class OwnCase(unittest.TestCase):
    def test_what_is_handed_in_stays_as_it_was(self):
        for ask, handed in CALLS:
            with self.subTest(ask=ask.__name__, handed=handed):
                before = copy.deepcopy(handed)
                ask(*handed)
                self.assertEqual(handed, before)
                self.assertEqual(repr(handed), repr(before))

    def test_drawn_piles_wishes_and_settings_stay_as_they_were(self):
        draws = plain.Draws(31)
        for many, pile in plain.drawn_piles(31, 100):
            wishes = [draws.pick(plain.all_lits(many)) for count in range(2)]
            setting = draws.setting(many)
            before = copy.deepcopy((pile, wishes, setting))
            steps_from(pile, wishes[0])
            road(pile, wishes[0], wishes[1])
            clash(many, pile)
            good(pile, setting)
            least(many, pile)
            least_with(many, pile, wishes)
            next_good(many, pile, setting)
            why(many, pile, tuple(wishes))
            against(many, pile, tuple(wishes))
            thin(many, pile)
            if plain.good_settings(many, pile):
                settled(many, pile)
            self.assertEqual((pile, wishes, setting), before)

    def test_changing_an_answer_changes_no_later_answer(self):
        for ask, handed in CALLS:
            with self.subTest(ask=ask.__name__, handed=handed):
                answer = ask(*handed)
                before = copy.deepcopy(answer)
                answered = list_in(answer)
                if answered is not None:
                    answered.reverse()
                    answered.append(9)
                    answered.insert(0, 9)
                again = ask(*handed)
                self.assertEqual(again, before)
                if answered is not None:
                    self.assertIsNot(list_in(again), answered)

    def test_no_answer_is_a_list_that_was_handed_in(self):
        for ask, handed in CALLS:
            with self.subTest(ask=ask.__name__, handed=handed):
                answered = list_in(ask(*handed))
                for part in handed:
                    if isinstance(part, list):
                        self.assertIsNot(answered, part)

    def test_changing_what_was_handed_in_changes_no_answer(self):
        for ask, handed in CALLS:
            with self.subTest(ask=ask.__name__, handed=handed):
                own = copy.deepcopy(handed)
                answer = ask(*own)
                before = copy.deepcopy(answer)
                for part in own:
                    if isinstance(part, list):
                        part.clear()
                self.assertEqual(answer, before)
                self.assertEqual(ask(*copy.deepcopy(handed)), before)

    def test_a_pile_changed_between_two_calls_is_read_anew(self):
        pile = []
        self.assertEqual(least(2, pile), [False, False])
        self.assertIsNone(road(pile, -1, 2))
        pile.append((1, 2))
        self.assertEqual(least(2, pile), [False, True])
        self.assertEqual(road(pile, -1, 2), [-1, 2])
        self.assertEqual(steps_from(pile, -1), [2])
        self.assertIsNone(clash(2, pile))
        self.assertEqual(settled(2, pile), [])
        self.assertEqual(thin(2, pile), [(1, 2)])
        self.assertEqual(against(2, pile, (1, 1)), [False, True])
        self.assertIsNone(why(2, pile, (1, 1)))
        pile.append((1, -2))
        self.assertEqual(settled(2, pile), [1])
        self.assertEqual(thin(2, pile), [(1, 2), (1, -2)])
        self.assertIsNone(against(2, pile, (1, 1)))
        self.assertTrue(plain.shows(pile, (1, 1), True, why(2, pile, (1, 1))))
        pile.extend([(-1, -1), (-2, -2)])
        self.assertIsNone(least(2, pile))
        self.assertTrue(plain.is_ring(pile, clash(2, pile)))


class SomewhatBeyond(unittest.TestCase):
    """What lies somewhat beyond a bound is answered like the rest."""

    def test_more_than_sixty_switches(self):
        chain = [(-switch, switch + 1) for switch in range(1, 75)]
        self.assertEqual(least(75, chain), [False] * 75)
        self.assertEqual(least_with(75, chain, [75]), [False] * 74 + [True])
        self.assertEqual(next_good(75, chain, [False] * 75), [False] * 74 + [True])
        self.assertEqual(road(chain, 1, 75), list(range(1, 76)))
        self.assertIsNone(clash(75, chain))
        ring_pile = chain + [(1, 1), (-75, -75)]
        self.assertTrue(plain.is_ring(ring_pile, clash(75, ring_pile)))
        self.assertTrue(plain.shows(chain, (-1, 75), True, why(75, chain, (-1, 75))))
        self.assertEqual(against(75, chain, (-75, -75)), [False] * 74 + [True])
        self.assertEqual(settled(75, chain + [(-75, -75)]), list(range(-1, -76, -1)))
        self.assertEqual(thin(75, [(-1, 75)] + chain), chain)
        self.assertEqual(shown((75, -75)), "75 or not 75")

    def test_a_pile_of_more_than_400(self):
        pile = plain.Blocks(7).pile
        longer = pile + pile[:100]
        self.assertEqual(least(60, longer), least(60, pile))
        self.assertIsNone(clash(60, longer))
        self.assertEqual(settled(60, longer), settled(60, pile))
        self.assertEqual(against(60, longer, (1, 60)), against(60, pile, (1, 60)))
        self.assertEqual(thin(60, longer), plain.thinned(longer, plain.follows_in_blocks))
        self.assertTrue(plain.shows(longer, pile[0], True, why(60, longer, pile[0])))


if __name__ == "__main__":
    unittest.main()
