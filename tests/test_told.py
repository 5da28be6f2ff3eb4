import unittest

from eitherbook.told import good, holds, least, least_with, next_good
from tests import plain

NONE_GOOD = [(1, 2), (1, -2), (-1, 2), (-1, -2)]


class SettingCase(unittest.TestCase):
    def check_setting(self, answer, asked):
        self.assertEqual(answer, asked)
        if answer is not None:
            self.assertIs(type(answer), list)
            self.assertEqual([type(value) for value in answer], [bool] * len(answer))


class HoldsAndGood(unittest.TestCase):
    def test_one_literal_of_the_two_is_enough(self):
        self.assertIs(holds((1, -2), [True, True]), True)
        self.assertIs(holds((1, -2), [False, False]), True)
        self.assertIs(holds((1, -2), [True, False]), True)
        self.assertIs(holds((1, -2), [False, True]), False)

    def test_literals_alike(self):
        self.assertIs(holds((1, 1), [True]), True)
        self.assertIs(holds((1, 1), [False]), False)
        self.assertIs(holds((-1, -1), [True]), False)
        self.assertIs(holds((-1, -1), [False]), True)

    def test_a_literal_with_its_own_flip(self):
        for setting in ([True], [False]):
            self.assertIs(holds((1, -1), setting), True)
            self.assertIs(holds((-1, 1), setting), True)

    def test_the_first_and_the_last_of_sixty(self):
        setting = [True] + [False] * 59
        self.assertIs(holds((-1, 60), setting), False)
        self.assertIs(holds((-60, -1), setting), True)
        self.assertIs(good([(1, 1), (-60, -60)], setting), True)

    def test_every_setting_is_good_for_an_empty_pile(self):
        for setting in plain.all_settings(3) + [[True] * 60]:
            self.assertIs(good([], setting), True)

    def test_one_untrue_statement_is_enough(self):
        pile = [(1, 1)] * 399
        self.assertIs(good(pile + [(1, 2)], [True, False]), True)
        self.assertIs(good(pile + [(2, 2)], [True, False]), False)
        self.assertIs(good([(2, 2)] + pile, [True, False]), False)

    def test_against_the_words_of_point_2(self):
        for many, pile in plain.small_piles() + plain.drawn_piles(21, 200):
            fitting = plain.good_settings(many, pile)
            for setting in plain.all_settings(many):
                with self.subTest(pile=pile, setting=setting):
                    self.assertIs(good(pile, setting), setting in fitting)
                    for say in pile:
                        self.assertIs(holds(say, setting), plain.say_true(say, setting))


class Least(SettingCase):
    def test_one_switch(self):
        self.check_setting(least(1, []), [False])
        self.check_setting(least(1, [(1, 1)]), [True])
        self.check_setting(least(1, [(1, -1)]), [False])
        self.check_setting(least(1, [(1, 1), (-1, -1)]), None)

    def test_off_is_taken_from_the_first_switch_on(self):
        self.check_setting(least(2, [(1, 2)]), [False, True])
        self.check_setting(least(2, [(2, 1)]), [False, True])
        self.check_setting(least(3, [(1, 3), (2, 3), (-3, 1)]), [True, False, True])

    def test_no_setting_is_good(self):
        self.check_setting(least(2, NONE_GOOD), None)
        self.check_setting(least(60, NONE_GOOD), None)
        self.check_setting(least(60, [(60, 60), (-60, -60)]), None)

    def test_sixty_switches(self):
        chain = [(-switch, switch + 1) for switch in range(1, 60)]
        self.check_setting(least(60, []), [False] * 60)
        self.check_setting(least(60, chain), [False] * 60)
        self.check_setting(least(60, chain + [(1, 1)]), [True] * 60)
        self.check_setting(least(60, [(60, 60)]), [False] * 59 + [True])

    def test_a_pile_of_400(self):
        for seed in range(5):
            blocks = plain.Blocks(seed)
            with self.subTest(seed=seed):
                self.assertEqual(len(blocks.pile), 400)
                self.check_setting(least(60, blocks.pile), blocks.least())
                self.check_setting(least(60, plain.Draws(seed).pile(60, 400)), None)

    def test_against_all_settings(self):
        for many, pile in plain.small_piles() + plain.drawn_piles(22, 600):
            with self.subTest(many=many, pile=pile):
                self.check_setting(least(many, pile), plain.first(plain.good_settings(many, pile)))


class LeastWith(SettingCase):
    def test_no_wishes(self):
        self.check_setting(least_with(2, [(1, 2)], []), [False, True])
        self.check_setting(least_with(2, NONE_GOOD, []), None)
        self.check_setting(least_with(1, [], []), [False])

    def test_wishes_that_contradict_one_another(self):
        self.check_setting(least_with(1, [], [1, -1]), None)
        self.check_setting(least_with(60, [], [60, 3, -60]), None)
        self.check_setting(least_with(2, [(-1, 2)], [1, -2]), None)

    def test_a_wish_against_the_pile(self):
        self.check_setting(least_with(1, [(1, 1)], [-1]), None)
        self.check_setting(least_with(1, [(1, 1)], [1]), [True])

    def test_a_wish_twice(self):
        self.check_setting(least_with(2, [], [2, 2]), [False, True])

    def test_a_wish_where_none_is_good(self):
        self.check_setting(least_with(3, NONE_GOOD, [3]), None)

    def test_sixty_switches(self):
        chain = [(-switch, switch + 1) for switch in range(1, 60)]
        self.check_setting(least_with(60, chain, [31]), [False] * 30 + [True] * 30)
        self.check_setting(least_with(60, chain, [1, -60]), None)
        self.check_setting(least_with(60, [], list(range(1, 61))), [True] * 60)

    def test_a_pile_of_400(self):
        answers = []
        for seed in range(5):
            blocks = plain.Blocks(seed)
            draws = plain.Draws(seed)
            for count in range(40):
                wishes = [draws.pick(plain.all_lits(60)) for number in range(draws.below(4))]
                with self.subTest(seed=seed, wishes=wishes):
                    answers.append(least_with(60, blocks.pile, wishes))
                    self.check_setting(answers[-1], blocks.least_with(wishes))
        self.assertIn(None, answers)

    def test_against_all_settings(self):
        draws = plain.Draws(23)
        for many, pile in plain.small_piles() + plain.drawn_piles(23, 600):
            lits = plain.all_lits(many)
            for count in range(4):
                wishes = [draws.pick(lits) for number in range(count)]
                fitting = [setting for setting in plain.good_settings(many, pile)
                           if all(plain.lit_true(lit, setting) for lit in wishes)]
                with self.subTest(many=many, pile=pile, wishes=wishes):
                    self.check_setting(least_with(many, pile, wishes), plain.first(fitting))


class NextGood(SettingCase):
    def test_one_switch(self):
        self.check_setting(next_good(1, [], [False]), [True])
        self.check_setting(next_good(1, [], [True]), None)
        self.check_setting(next_good(1, [(-1, -1)], [False]), None)
        self.check_setting(next_good(1, [(1, 1), (-1, -1)], [False]), None)

    def test_behind_a_setting_that_is_not_good(self):
        self.check_setting(next_good(2, [(1, 2)], [False, False]), [False, True])
        self.check_setting(next_good(2, [(1, 1)], [False, True]), [True, False])

    def test_never_the_setting_itself(self):
        self.check_setting(next_good(2, [(1, 2)], [False, True]), [True, False])

    def test_none_comes_behind(self):
        self.check_setting(next_good(2, [], [True, True]), None)
        self.check_setting(next_good(2, [(-1, -1)], [False, True]), None)
        self.check_setting(next_good(2, [(-1, -1)], [True, False]), None)

    def test_no_setting_is_good(self):
        for setting in plain.all_settings(2):
            self.check_setting(next_good(2, NONE_GOOD, setting), None)
        self.check_setting(next_good(60, NONE_GOOD, [False] * 60), None)

    def test_sixty_switches(self):
        chain = [(-switch, switch + 1) for switch in range(1, 60)]
        for on in range(60):
            setting = [False] * (60 - on) + [True] * on
            self.check_setting(next_good(60, chain, setting), [False] * (59 - on) + [True] * (on + 1))
        self.check_setting(next_good(60, chain, [True] * 60), None)
        self.check_setting(next_good(60, [], [False] + [True] * 59), [True] + [False] * 59)

    def test_a_pile_of_400_from_the_first_on(self):
        blocks = plain.Blocks(3)
        setting = least(60, blocks.pile)
        for count in range(60):
            asked = blocks.next_good(setting)
            self.check_setting(next_good(60, blocks.pile, setting), asked)
            setting = asked
            self.assertIsNotNone(setting)

    def test_a_pile_of_400_behind_any_setting(self):
        draws = plain.Draws(24)
        for seed in range(5):
            blocks = plain.Blocks(seed)
            for count in range(20):
                kept = draws.below(15)
                mixed = sum([draws.pick(settings) for settings in blocks.good[:kept]], [])
                setting = mixed + draws.setting(60 - len(mixed))
                with self.subTest(seed=seed, setting=setting):
                    self.check_setting(next_good(60, blocks.pile, setting), blocks.next_good(setting))

    def test_against_all_settings(self):
        for many, pile in plain.small_piles() + plain.drawn_piles(25, 300):
            fitting = plain.good_settings(many, pile)
            everything = plain.all_settings(many)
            for place, setting in enumerate(everything):
                behind = [other for other in everything[place + 1:] if other in fitting]
                with self.subTest(many=many, pile=pile, setting=setting):
                    self.check_setting(next_good(many, pile, setting), plain.first(behind))


if __name__ == "__main__":
    unittest.main()
