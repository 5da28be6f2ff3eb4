import unittest

from eitherbook.steps import clash, road, steps_from
from tests import plain


class StepsFrom(unittest.TestCase):
    def test_both_steps_of_a_statement(self):
        pile = [(1, -2)]
        self.assertEqual(steps_from(pile, -1), [-2])
        self.assertEqual(steps_from(pile, 2), [1])
        self.assertEqual(steps_from(pile, 1), [])
        self.assertEqual(steps_from(pile, -2), [])

    def test_in_the_order_of_the_statements_that_give_them_first(self):
        pile = [(3, -1), (-1, 2), (-1, 3), (-4, -1), (2, -1), (-1, 1)]
        self.assertEqual(steps_from(pile, 1), [3, 2, -4, 1])

    def test_a_statement_twice_gives_its_literal_once(self):
        self.assertEqual(steps_from([(1, 2), (1, 2), (2, 1)], -1), [2])

    def test_a_literal_alike(self):
        self.assertEqual(steps_from([(1, 1)], -1), [1])
        self.assertEqual(steps_from([(1, 1)], 1), [])

    def test_a_literal_with_its_own_flip(self):
        self.assertEqual(steps_from([(1, -1)], 1), [1])
        self.assertEqual(steps_from([(1, -1)], -1), [-1])

    def test_the_empty_pile(self):
        self.assertEqual(steps_from([], 1), [])

    def test_the_last_switch_of_sixty_in_a_pile_of_400(self):
        pile = [(-60, 1 + count % 59) for count in range(400)]
        self.assertEqual(steps_from(pile, 60), list(range(1, 60)))
        self.assertEqual(steps_from(pile, -59), [-60])

    def test_against_all_literals(self):
        for many, pile in plain.small_piles() + plain.drawn_piles(11, 300):
            for lit in plain.all_lits(many):
                with self.subTest(pile=pile, lit=lit):
                    self.check_against_the_pile(many, pile, lit)

    def check_against_the_pile(self, many, pile, lit):
        answer = steps_from(pile, lit)
        self.assertIs(type(answer), list)
        self.assertEqual(len(answer), len(set(answer)))
        reached = [follower for follower in plain.all_lits(many) if plain.leads(pile, lit, follower)]
        self.assertEqual(sorted(answer), sorted(reached))
        firsts = [self.first_giver(pile, lit, follower) for follower in answer]
        self.assertEqual(firsts, sorted(firsts))

    def first_giver(self, pile, lit, follower):
        return [plain.leads([say], lit, follower) for say in pile].index(True)


class Road(unittest.TestCase):
    def test_over_several_steps(self):
        self.assertEqual(road([(-2, 3), (-1, 2), (-3, 4)], 1, 4), [1, 2, 3, 4])

    def test_backwards_over_the_flips(self):
        self.assertEqual(road([(-2, 3), (-1, 2), (-3, 4)], -4, -1), [-4, -3, -2, -1])

    def test_no_road(self):
        self.assertIsNone(road([(-1, 2)], 2, 1))
        self.assertIsNone(road([(-1, 2)], 1, -1))
        self.assertIsNone(road([], 1, 2))
        self.assertIsNone(road([], 1, -1))

    def test_the_short_road_though_its_statements_come_last(self):
        pile = [(-1, 2), (-2, 3), (-3, 4), (-1, 5), (-5, 4)]
        self.assertEqual(road(pile, 1, 4), [1, 5, 4])
        self.assertEqual(road(pile + [(4, -1)], 1, 4), [1, 4])

    def test_from_a_literal_to_itself_takes_no_step(self):
        for pile in ([], [(1, -1)], [(1, 1)], [(-1, 2), (-2, 1)]):
            for lit in (1, -1):
                with self.subTest(pile=pile, lit=lit):
                    self.assertEqual(road(pile, lit, lit), [lit])

    def test_to_the_flip(self):
        self.assertEqual(road([(1, 1)], -1, 1), [-1, 1])
        self.assertIsNone(road([(1, 1)], 1, -1))
        self.assertIsNone(road([(1, -1)], 1, -1))

    def test_sixty_switches(self):
        pile = [(-switch, switch + 1) for switch in range(1, 60)]
        self.assertEqual(road(pile, 1, 60), list(range(1, 61)))
        self.assertEqual(road(pile, -60, -1), list(range(-60, 0)))
        self.assertIsNone(road(pile, 60, 1))

    def test_a_pile_of_400_over_sixty_switches(self):
        pile = plain.Draws(5).pile(60, 400)
        for start in (1, -17, 60):
            counts = plain.step_counts(60, pile, start)
            for goal in plain.all_lits(60):
                with self.subTest(start=start, goal=goal):
                    self.check_road(pile, start, goal, counts.get(goal))

    def test_against_all_literals(self):
        for many, pile in plain.small_piles() + plain.drawn_piles(12, 150):
            for start in plain.all_lits(many):
                counts = plain.step_counts(many, pile, start)
                for goal in plain.all_lits(many):
                    with self.subTest(pile=pile, start=start, goal=goal):
                        self.check_road(pile, start, goal, counts.get(goal))

    def check_road(self, pile, start, goal, count):
        answer = road(pile, start, goal)
        if count is None:
            self.assertIsNone(answer)
            return
        self.assertIs(type(answer), list)
        self.assertEqual((answer[0], answer[-1]), (start, goal))
        self.assertTrue(plain.is_road(pile, answer))
        self.assertEqual(len(answer), count + 1)


class Clash(unittest.TestCase):
    def check_ring(self, many, pile):
        answer = clash(many, pile)
        self.assertIs(type(answer), list)
        self.assertTrue(plain.is_ring(pile, answer), answer)

    def test_one_switch(self):
        self.check_ring(1, [(1, 1), (-1, -1)])
        for pile in ([], [(1, 1)], [(-1, -1)], [(1, -1)], [(1, 1), (1, 1), (-1, 1)]):
            with self.subTest(pile=pile):
                self.assertIsNone(clash(1, pile))

    def test_the_four_statements_of_two_switches(self):
        pile = [(1, 2), (1, -2), (-1, 2), (-1, -2)]
        self.check_ring(2, pile)
        for left_out in pile:
            with self.subTest(left_out=left_out):
                self.assertIsNone(clash(2, [say for say in pile if say != left_out]))

    def test_a_road_back_to_its_start_without_a_switch_both_ways_is_no_ring(self):
        self.assertIsNone(clash(3, [(-1, 2), (-2, 3), (-3, 1)]))

    def test_a_road_one_way_alone_is_no_ring(self):
        self.assertIsNone(clash(2, [(-1, 2), (-1, -2), (-1, -1)]))

    def test_a_statement_twice(self):
        self.assertIsNone(clash(1, [(1, 1), (1, 1)]))
        self.check_ring(1, [(1, 1), (-1, -1), (1, 1), (-1, -1)])

    def test_the_last_of_sixty_switches(self):
        self.check_ring(60, [(60, 60), (-60, -60)])
        self.assertIsNone(clash(60, [(60, 60)]))

    def test_a_long_ring_over_sixty_switches(self):
        chain = [(-switch, switch + 1) for switch in range(1, 60)]
        self.assertIsNone(clash(60, chain + [(-60, -1)]))
        self.check_ring(60, chain + [(-60, -1), (1, 1)])

    def test_a_pile_of_400(self):
        for seed in range(5):
            with self.subTest(seed=seed):
                self.check_ring(60, plain.Draws(seed).pile(60, 400))
                blocks = plain.Blocks(seed)
                self.assertEqual(len(blocks.pile), 400)
                self.assertIsNone(clash(60, blocks.pile))

    def test_against_all_settings(self):
        piles = plain.small_piles() + plain.drawn_piles(13, 600)
        self.assertEqual({bool(plain.good_settings(many, pile)) for many, pile in piles}, {True, False})
        for many, pile in piles:
            with self.subTest(many=many, pile=pile):
                if plain.good_settings(many, pile):
                    self.assertIsNone(clash(many, pile))
                else:
                    self.check_ring(many, pile)


if __name__ == "__main__":
    unittest.main()
