import unittest

from eitherbook.book import Book
from eitherbook.errors import BadSay, EmptyBook, FullBook, SayError
from tests import plain

NONE_GOOD = [(1, 2), (1, -2), (-1, 2), (-1, -2)]
FULL = [(1 + count % 60, -(1 + (7 * count + 3) % 60)) for count in range(400)]


def book_of(many, pile):
    book = Book(many)
    for say in pile:
        book.add(say)
    return book


class BookCase(unittest.TestCase):
    def check_refused(self, refusal, call, *handed):
        with self.assertRaises(SayError) as taken:
            call(*handed)
        self.assertIs(type(taken.exception), refusal)

    def check_ring(self, pile, some_good, answer):
        if some_good:
            self.assertIsNone(answer)
        else:
            self.assertIs(type(answer), list)
            self.assertTrue(plain.is_ring(pile, answer), answer)

    def check_asked(self, pile, say, some_good, answer, setting):
        """`setting` is the first good one in which the statement is not true, or None."""
        self.assertIs(type(answer), tuple)
        self.assertEqual([type(part) for part in answer], [str, list])
        if setting is None:
            self.assertTrue(plain.shows(pile, say, some_good, answer), answer)
        else:
            self.assertEqual(answer, ("setting", setting))

    def check_book(self, book, many, pile, asked):
        """All that the book answers, against a plain going-through."""
        fitting = plain.good_settings(many, pile)
        self.assertEqual(book.many, many)
        self.assertEqual(book.says(), pile)
        self.assertEqual(book.setting(), plain.first(fitting))
        self.check_ring(pile, bool(fitting), book.ring())
        for say in asked:
            self.check_asked(pile, say, bool(fitting), book.ask(say), plain.against(many, pile, say))


class AddAndBack(BookCase):
    def test_an_empty_book(self):
        for many in (1, 2, 60):
            with self.subTest(many=many):
                book = Book(many)
                self.assertEqual(book.many, many)
                self.assertEqual(book.says(), [])
                self.assertEqual(book.setting(), [False] * many)
                self.assertIsNone(book.ring())
                self.assertEqual(book.ask((1, 1)), ("setting", [False] * many))
                self.assertEqual(book.ask((-many, -many)), ("setting", [False] * (many - 1) + [True]))
                self.check_asked([], (1, -1), True, book.ask((1, -1)), None)

    def test_put_and_taken_back(self):
        book = Book(3)
        self.assertIsNone(book.add((1, 2)))
        self.assertIsNone(book.add((-2, 3)))
        self.assertEqual(book.says(), [(1, 2), (-2, 3)])
        self.assertEqual(book.back(), (-2, 3))
        self.assertEqual(book.says(), [(1, 2)])
        self.assertIsNone(book.add((3, 3)))
        self.assertEqual(book.says(), [(1, 2), (3, 3)])
        self.assertEqual(book.back(), (3, 3))
        self.assertEqual(book.back(), (1, 2))
        self.assertEqual(book.says(), [])

    def test_a_statement_twice_is_held_twice(self):
        book = book_of(2, [(1, 2), (1, 2), (2, 1)])
        self.assertEqual(book.says(), [(1, 2), (1, 2), (2, 1)])
        self.assertEqual(book.back(), (2, 1))
        self.assertEqual(book.back(), (1, 2))
        self.assertEqual(book.says(), [(1, 2)])

    def test_statements_and_answers_are_tuples_of_whole_numbers(self):
        book = book_of(2, [(1, -2), (2, 2)])
        for say in book.says() + [book.back()]:
            self.assertIs(type(say), tuple)
            self.assertEqual([type(lit) for lit in say], [int, int])

    def test_none_is_good_until_one_is_taken_back(self):
        book = book_of(2, NONE_GOOD)
        self.check_book(book, 2, NONE_GOOD, plain.all_says(2))
        self.assertIsNone(book.setting())
        self.assertEqual(book.ask((1, 1))[0], "ring")
        book.back()
        self.check_book(book, 2, NONE_GOOD[:3], plain.all_says(2))
        self.assertEqual(book.setting(), [True, True])

    def test_one_switch(self):
        book = Book(1)
        book.add((1, 1))
        self.check_book(book, 1, [(1, 1)], plain.all_says(1))
        book.add((-1, -1))
        self.check_book(book, 1, [(1, 1), (-1, -1)], plain.all_says(1))

    def test_sixty_switches(self):
        chain = [(-switch, switch + 1) for switch in range(1, 60)]
        book = book_of(60, chain)
        self.assertEqual(book.setting(), [False] * 60)
        self.assertEqual(book.ask((1, -60)), ("setting", [False] * 59 + [True]))
        self.check_asked(chain, (-1, 60), True, book.ask((-1, 60)), None)
        book.add((1, 1))
        self.assertEqual(book.setting(), [True] * 60)
        self.assertIsNone(book.ring())
        book.add((-60, -60))
        self.assertIsNone(book.setting())
        self.check_ring(book.says(), False, book.ring())
        self.check_asked(book.says(), (1, -60), False, book.ask((1, -60)), None)

    def test_a_book_of_400(self):
        for seed in range(3):
            blocks = plain.Blocks(seed)
            draws = plain.Draws(seed)
            book = book_of(60, blocks.pile)
            self.assertEqual(book.says(), blocks.pile)
            self.assertEqual(book.setting(), blocks.least())
            self.assertIsNone(book.ring())
            for say in draws.pile(60, 40) + blocks.pile[:5]:
                with self.subTest(seed=seed, say=say):
                    self.check_asked(blocks.pile, say, True, book.ask(say), blocks.least_with([-say[0], -say[1]]))

    def test_a_book_of_400_for_which_none_is_good(self):
        for seed in range(3):
            pile = plain.Draws(seed).pile(60, 400)
            book = book_of(60, pile)
            self.assertIsNone(book.setting())
            self.check_ring(pile, False, book.ring())
            self.check_asked(pile, (1, -60), False, book.ask((1, -60)), None)

    def test_rows_of_add_and_back(self):
        for seed in range(12):
            draws = plain.Draws(seed)
            many = 1 + seed % 4
            book = Book(many)
            pile = []
            for count in range(60):
                if draws.below(3) == 0:
                    if pile:
                        self.assertEqual(book.back(), pile.pop())
                    else:
                        self.check_refused(EmptyBook, book.back)
                else:
                    say = draws.pick(plain.all_says(many))
                    self.assertIsNone(book.add(say))
                    pile.append(say)
                with self.subTest(many=many, pile=pile):
                    self.check_book(book, many, pile, draws.pile(many, 4))


class Refusals(BookCase):
    def check_bad_says(self, book):
        before = book.says()
        for bad in (0, book.many + 1, -book.many - 1, book.many + 40, -book.many - 40):
            for say in ((bad, 1), (1, bad), (-book.many, bad), (bad, -book.many), (bad, bad), (0, bad), (bad, -bad)):
                with self.subTest(many=book.many, held=len(before), say=say):
                    self.check_refused(BadSay, book.add, say)
                    self.assertEqual(book.says(), before)

    def test_a_literal_that_the_book_does_not_have(self):
        for many in (1, 2, 59, 60):
            self.check_bad_says(Book(many))
            self.check_bad_says(book_of(many, [(1, many), (-many, 1)]))

    def test_a_bad_literal_goes_ahead_of_the_full_book(self):
        self.check_bad_says(book_of(60, FULL))
        self.check_bad_says(book_of(1, [(1, 1)] * 400))

    def test_the_first_and_the_last_switch_are_not_refused(self):
        for many in (1, 59, 60):
            pile = [(1, many), (-1, -many), (many, -1), (-many, 1), (many, many), (-many, -many)]
            self.assertEqual(book_of(many, pile).says(), pile)

    def test_the_full_book(self):
        book = book_of(60, FULL[:399])
        self.assertIsNone(book.add(FULL[399]))
        self.assertEqual(len(book.says()), 400)
        answers = (book.setting(), book.ring(), book.ask((1, 2)), book.ask((60, -60)))
        for say in ((1, 1), (-60, 60), FULL[399]):
            self.check_refused(FullBook, book.add, say)
            self.assertEqual(book.says(), FULL)
        self.assertEqual((book.setting(), book.ring(), book.ask((1, 2)), book.ask((60, -60))), answers)

    def test_put_again_after_taking_back_from_a_full_one(self):
        book = book_of(60, FULL)
        self.assertEqual(book.back(), FULL[399])
        self.assertIsNone(book.add((60, 60)))
        self.assertEqual(book.says(), FULL[:399] + [(60, 60)])
        self.check_refused(FullBook, book.add, (60, 60))
        self.assertEqual(book.back(), (60, 60))
        self.assertEqual(book.back(), FULL[398])
        self.assertEqual(book.says(), FULL[:398])

    def test_a_full_book_is_emptied(self):
        book = book_of(60, FULL)
        self.assertEqual([book.back() for count in range(400)], list(reversed(FULL)))
        self.assertEqual(book.says(), [])
        self.check_refused(EmptyBook, book.back)
        book.add((1, 1))
        self.assertEqual(book.says(), [(1, 1)])

    def test_the_empty_book(self):
        for many in (1, 60):
            book = Book(many)
            self.check_refused(EmptyBook, book.back)
            self.assertEqual(book.says(), [])
            book.add((1, many))
            book.back()
            self.check_refused(EmptyBook, book.back)
            self.check_refused(EmptyBook, book.back)
            self.assertEqual(book.says(), [])
            self.assertEqual(book.setting(), [False] * many)

    def test_asking_a_full_book_is_not_refused(self):
        pile = [(1, 2)] * 400
        book = book_of(2, pile)
        self.check_asked(pile, (2, 1), True, book.ask((2, 1)), None)
        self.assertEqual(book.ask((1, 1)), ("setting", [False, True]))


class Own(BookCase):
    def test_asking_changes_nothing(self):
        pile = [(1, 2), (-2, 3), (1, 2)]
        book = book_of(3, pile)
        for count in range(2):
            for say in plain.all_says(3):
                book.ask(say)
            book.setting()
            book.ring()
            self.assertEqual(book.says(), pile)
        self.check_book(book, 3, pile, plain.all_says(3))

    def test_changing_an_answer_changes_no_later_one(self):
        for pile in ([], [(1, 2), (-2, 3)], NONE_GOOD + [(3, 3)]):
            book = book_of(3, pile)
            calls = (book.says, book.setting, book.ring,
                     lambda: book.ask((1, 3)), lambda: book.ask((1, -1)), lambda: book.ask((2, 2)))
            for call in calls:
                answer = call()
                part = answer[1] if isinstance(answer, tuple) else answer
                if part is not None:
                    part.append((1, 1))
                    part.reverse()
                    part.clear()
                self.check_book(book, 3, pile, plain.all_says(3))

    def test_earlier_answers_stay_as_they_were(self):
        book = book_of(2, [(1, 2)])
        says, setting, asked = book.says(), book.setting(), book.ask((1, 1))
        followed = book.ask((2, 1))
        kept = (list(says), list(setting), (asked[0], list(asked[1])), (followed[0], list(followed[1])))
        for say in NONE_GOOD:
            book.add(say)
        ring = book.ring()
        ring_before = list(ring)
        for count in range(5):
            book.back()
        self.assertEqual((says, setting, asked, followed), kept)
        self.assertEqual(ring, ring_before)

    def test_no_two_answers_are_one_list(self):
        book = book_of(2, NONE_GOOD)
        self.assertIsNot(book.says(), book.says())
        self.assertIsNot(book.ring(), book.ring())
        self.assertIsNot(book.ask((1, 1))[1], book.ask((1, 1))[1])
        book.back()
        self.assertIsNot(book.setting(), book.setting())
        self.assertIsNot(book.ask((-1, -1))[1], book.ask((-1, -1))[1])
        self.assertIsNot(book.ask((1, 1))[1], book.ask((1, 1))[1])

    def test_two_books_have_nothing_in_common(self):
        one, other = Book(2), Book(3)
        one.add((1, 2))
        self.assertEqual(other.says(), [])
        other.add((3, 3))
        other.add((-1, -1))
        self.check_book(one, 2, [(1, 2)], plain.all_says(2))
        self.check_book(other, 3, [(3, 3), (-1, -1)], plain.all_says(3))
        one.back()
        self.assertEqual(other.back(), (-1, -1))
        self.check_refused(EmptyBook, one.back)
        self.check_refused(BadSay, one.add, (3, 3))
        self.check_book(other, 3, [(3, 3)], plain.all_says(3))
        self.check_book(Book(2), 2, [], plain.all_says(2))


class SomewhatBeyond(BookCase):
    def test_more_than_sixty_switches(self):
        book = book_of(75, [(75, -61), (61, 61)])
        self.assertEqual(book.setting(), [False] * 60 + [True] + [False] * 13 + [True])
        self.check_asked(book.says(), (75, 1), True, book.ask((75, 1)), None)
        self.check_refused(BadSay, book.add, (76, 1))
        self.check_refused(BadSay, book.add, (1, -76))


if __name__ == "__main__":
    unittest.main()
