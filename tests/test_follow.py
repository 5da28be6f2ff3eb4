import unittest

from eitherbook.errors import NoSetting, SayError
from eitherbook.follow import against, settled, thin, why
from tests import plain

NONE_GOOD = [(1, 2), (1, -2), (-1, 2), (-1, -2)]
CHAIN = [(-switch, switch + 1) for switch in range(1, 60)]


class FollowCase(unittest.TestCase):
    def check_shown(self, many, pile, say, some_good=True):
        answer = why(many, pile, say)
        self.assertIs(type(answer), tuple)
        self.assertEqual([type(part) for part in answer], [str, list])
        self.assertTrue(plain.shows(pile, say, some_good, answer), answer)

    def check_setting(self, answer, asked):
        self.assertEqual(answer, asked)
        if answer is not None:
            self.assertIs(type(answer), list)
            self.assertEqual([type(value) for value in answer], [bool] * len(answer))


class Why(FollowCase):
    def test_a_statement_of_the_pile_and_the_same_turned_round(self):
        self.check_shown(2, [(1, 2)], (1, 2))
        self.check_shown(2, [(1, 2)], (2, 1))

    def test_over_several_steps(self):
        pile = [(-2, 3), (-1, 2), (-3, 4)]
        self.assertIn(why(4, pile, (-1, 4)), (("road", [1, 2, 3, 4]), ("road", [-4, -3, -2, -1])))
        self.check_shown(4, pile, (4, -1))
        self.assertIsNone(why(4, pile, (1, 4)))
        self.assertIsNone(why(4, pile, (-4, 1)))

    def test_one_literal_follows_by_itself(self):
        pile = [(1, 2), (1, -2)]
        self.check_shown(3, pile, (1, 1))
        self.check_shown(3, pile, (1, 3))
        self.check_shown(3, pile, (-3, 1))
        self.assertIsNone(why(3, pile, (2, 3)))
        self.assertIsNone(why(3, pile, (-1, -1)))

    def test_a_literal_with_its_own_flip_follows_from_every_pile(self):
        for pile in ([], [(2, 2)], [(-1, 2)], [(1, 1)]):
            for say in ((1, -1), (-1, 1)):
                with self.subTest(pile=pile, say=say):
                    self.check_shown(2, pile, say)

    def test_from_the_empty_pile_nothing_else_follows(self):
        for say in plain.all_says(3):
            with self.subTest(say=say):
                if say[0] == -say[1]:
                    self.check_shown(3, [], say)
                else:
                    self.assertIsNone(why(3, [], say))

    def test_one_switch(self):
        self.check_shown(1, [(1, 1)], (1, 1))
        self.assertIsNone(why(1, [(1, 1)], (-1, -1)))
        self.assertIsNone(why(1, [], (1, 1)))
        self.check_shown(1, [(1, 1), (-1, -1)], (1, 1), some_good=False)

    def test_a_ring_for_every_statement_where_none_is_good(self):
        for say in plain.all_says(3):
            with self.subTest(say=say):
                self.check_shown(3, NONE_GOOD, say, some_good=False)

    def test_sixty_switches(self):
        self.assertIn(why(60, CHAIN, (-1, 60)), (("road", list(range(1, 61))), ("road", list(range(-60, 0)))))
        self.assertIsNone(why(60, CHAIN, (1, -60)))
        self.check_shown(60, CHAIN + [(1, 1)], (60, 60))
        self.check_shown(60, CHAIN + [(1, 1), (-60, -60)], (30, 30), some_good=False)

    def test_a_pile_of_400(self):
        draws = plain.Draws(41)
        answers = []
        for seed in range(5):
            blocks = plain.Blocks(seed)
            for say in draws.pile(60, 40) + [draws.pick(blocks.pile) for count in range(10)]:
                with self.subTest(seed=seed, say=say):
                    if blocks.least_with([-say[0], -say[1]]) is None:
                        self.check_shown(60, blocks.pile, say)
                    else:
                        self.assertIsNone(why(60, blocks.pile, say))
                    answers.append(why(60, blocks.pile, say))
        self.assertIn(None, answers)

    def test_a_pile_of_400_for_which_none_is_good(self):
        for seed in range(5):
            draws = plain.Draws(seed)
            pile = draws.pile(60, 400)
            for say in draws.pile(60, 5):
                with self.subTest(seed=seed, say=say):
                    self.check_shown(60, pile, say, some_good=False)

    def test_against_all_settings(self):
        for many, pile in plain.small_piles() + plain.drawn_piles(42, 150):
            fitting = plain.good_settings(many, pile)
            for say in plain.all_says(many):
                with self.subTest(many=many, pile=pile, say=say):
                    if all(plain.say_true(say, setting) for setting in fitting):
                        self.check_shown(many, pile, say, some_good=bool(fitting))
                    else:
                        self.assertIsNone(why(many, pile, say))


class Against(FollowCase):
    def test_the_first_one_in_which_it_is_not_true(self):
        self.check_setting(against(3, [(1, 2)], (1, 3)), [False, True, False])
        self.check_setting(against(3, [(1, 2)], (-2, -2)), [False, True, False])
        self.check_setting(against(3, [(1, 2)], (2, -3)), [True, False, True])

    def test_both_literals_are_untrue_in_it(self):
        self.check_setting(against(2, [], (-1, -2)), [True, True])
        self.check_setting(against(2, [], (-1, 2)), [True, False])

    def test_none_where_it_follows(self):
        self.check_setting(against(2, [(1, 2)], (1, 2)), None)
        self.check_setting(against(2, [(1, 2)], (2, 1)), None)
        self.check_setting(against(3, [(1, 2), (1, -2)], (3, 1)), None)

    def test_a_literal_with_its_own_flip(self):
        self.check_setting(against(1, [], (1, -1)), None)
        self.check_setting(against(60, [], (-60, 60)), None)

    def test_the_empty_pile(self):
        self.check_setting(against(1, [], (1, 1)), [False])
        self.check_setting(against(1, [], (-1, -1)), [True])
        self.check_setting(against(60, [], (-60, -59)), [False] * 58 + [True] * 2)

    def test_no_setting_is_good(self):
        for say in plain.all_says(3):
            self.check_setting(against(3, NONE_GOOD, say), None)

    def test_sixty_switches(self):
        self.check_setting(against(60, CHAIN, (1, -60)), [False] * 59 + [True])
        self.check_setting(against(60, CHAIN, (-31, -31)), [False] * 30 + [True] * 30)
        self.check_setting(against(60, CHAIN, (-1, 60)), None)

    def test_a_pile_of_400(self):
        draws = plain.Draws(43)
        for seed in range(5):
            blocks = plain.Blocks(seed)
            for say in draws.pile(60, 40):
                with self.subTest(seed=seed, say=say):
                    self.check_setting(against(60, blocks.pile, say), blocks.least_with([-say[0], -say[1]]))
            self.check_setting(against(60, plain.Draws(seed).pile(60, 400), (1, 2)), None)

    def test_against_all_settings(self):
        for many, pile in plain.small_piles() + plain.drawn_piles(44, 60):
            for say in plain.all_says(many):
                with self.subTest(many=many, pile=pile, say=say):
                    self.check_setting(against(many, pile, say), plain.against(many, pile, say))


class Settled(unittest.TestCase):
    def check_refused(self, many, pile):
        with self.assertRaises(SayError) as taken:
            settled(many, pile)
        self.assertIs(type(taken.exception), NoSetting)

    def test_by_their_switches(self):
        self.assertEqual(settled(4, [(4, 4), (-3, -3), (1, 2), (1, -2)]), [1, -3, 4])

    def test_a_literal_that_no_statement_says_alone(self):
        self.assertEqual(settled(3, [(-1, 2), (-1, -2), (1, 3)]), [-1, 3])

    def test_nothing_is_settled(self):
        self.assertEqual(settled(1, []), [])
        self.assertEqual(settled(60, []), [])
        self.assertEqual(settled(2, [(1, 2), (-1, 1)]), [])

    def test_one_switch(self):
        self.assertEqual(settled(1, [(1, 1)]), [1])
        self.assertEqual(settled(1, [(-1, -1), (1, -1)]), [-1])

    def test_sixty_switches(self):
        self.assertEqual(settled(60, CHAIN), [])
        self.assertEqual(settled(60, CHAIN + [(1, 1)]), list(range(1, 61)))
        self.assertEqual(settled(60, CHAIN + [(-60, -60)]), list(range(-1, -61, -1)))
        self.assertEqual(settled(60, [(-60, -60)]), [-60])

    def test_refused_where_no_setting_is_good(self):
        self.check_refused(1, [(1, 1), (-1, -1)])
        self.check_refused(2, NONE_GOOD)
        self.check_refused(60, [(60, 60), (-60, -60)])

    def test_a_pile_of_400(self):
        for seed in range(5):
            with self.subTest(seed=seed):
                blocks = plain.Blocks(seed)
                self.assertEqual(settled(60, blocks.pile), blocks.settled())
                self.check_refused(60, plain.Draws(seed).pile(60, 400))

    def test_against_all_settings(self):
        for many, pile in plain.small_piles() + plain.drawn_piles(45, 600):
            with self.subTest(many=many, pile=pile):
                if plain.good_settings(many, pile):
                    answer = settled(many, pile)
                    self.assertIs(type(answer), list)
                    self.assertEqual(answer, plain.settled(many, pile))
                else:
                    self.check_refused(many, pile)


class Thin(unittest.TestCase):
    def test_of_a_statement_twice_the_last_is_left(self):
        self.assertEqual(thin(3, [(1, 2), (3, 3), (1, 2)]), [(3, 3), (1, 2)])
        self.assertEqual(thin(2, [(1, 2), (1, 2), (1, 2)]), [(1, 2)])
        self.assertEqual(thin(1, [(1, 1), (1, 1)]), [(1, 1)])

    def test_of_a_statement_and_the_same_turned_round_the_last_is_left(self):
        self.assertEqual(thin(2, [(1, 2), (2, 1)]), [(2, 1)])
        self.assertEqual(thin(2, [(2, 1), (1, 2), (2, 1), (1, 2)]), [(1, 2)])

    def test_the_eldest_is_looked_at_first(self):
        around = [(-1, 2), (-2, 3), (-3, 1), (-1, 3), (-3, 2), (-2, 1)]
        self.assertEqual(thin(3, around), [(-1, 3), (-3, 2), (-2, 1)])
        self.assertEqual(thin(3, around[3:] + around[:3]), [(-1, 2), (-2, 3), (-3, 1)])

    def test_only_what_is_still_there_counts(self):
        self.assertEqual(thin(3, [(1, 1), (1, 2), (1, -2)]), [(1, 2), (1, -2)])
        self.assertEqual(thin(3, [(1, 2), (1, -2), (1, 1)]), [(1, 1)])

    def test_what_is_left_stays_in_its_order(self):
        pile = [(3, 3), (1, 2), (4, -4), (-2, -1), (3, 1)]
        self.assertEqual(thin(4, pile), [(3, 3), (1, 2), (-2, -1)])

    def test_a_literal_with_its_own_flip_is_taken_out(self):
        self.assertEqual(thin(1, [(1, -1), (-1, 1)]), [])
        self.assertEqual(thin(60, [(60, -60)]), [])

    def test_the_empty_pile(self):
        self.assertEqual(thin(1, []), [])
        self.assertEqual(thin(60, []), [])

    def test_no_setting_is_good(self):
        self.assertEqual(thin(2, NONE_GOOD), NONE_GOOD)
        self.assertEqual(thin(3, [(3, 3)] + NONE_GOOD + [(2, 3)]), NONE_GOOD)
        self.assertEqual(thin(2, NONE_GOOD + [(1, 1)]), [(-1, 2), (-1, -2), (1, 1)])
        self.assertEqual(thin(1, [(1, 1), (-1, -1), (1, 1)]), [(-1, -1), (1, 1)])

    def test_sixty_switches(self):
        self.assertEqual(thin(60, CHAIN), CHAIN)
        self.assertEqual(thin(60, [(-1, 60)] + CHAIN), CHAIN)
        self.assertEqual(thin(60, CHAIN + [(60, -1), (60, -60)]), CHAIN)

    def test_a_pile_of_400(self):
        for seed in range(3):
            with self.subTest(seed=seed):
                pile = plain.Blocks(seed).pile
                self.assertEqual(thin(60, pile), plain.thinned(pile, plain.follows_in_blocks))

    def test_a_pile_of_400_for_which_none_is_good(self):
        for seed in range(3):
            with self.subTest(seed=seed):
                pile = plain.Blocks(seed).pile
                pile[200:204] = [(17, 18), (17, -18), (-17, 18), (-17, -18)]
                self.assertEqual(len(pile), 400)
                self.assertEqual(thin(60, pile), plain.thinned(pile, plain.follows_in_blocks))

    def test_against_all_settings(self):
        for many, pile in plain.small_piles() + plain.drawn_piles(46, 600):
            with self.subTest(many=many, pile=pile):
                answer = thin(many, pile)
                self.assertIs(type(answer), list)
                self.assertEqual(answer, plain.thinned(
                    pile, lambda others, say: plain.against(many, others, say) is None))


if __name__ == "__main__":
    unittest.main()
