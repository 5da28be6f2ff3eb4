"""A book: statements put to it one at a time and taken back from its end, and what follows from them just then."""

from eitherbook.errors import BadSay, EmptyBook, FullBook
from eitherbook.follow import against, why
from eitherbook.steps import clash
from eitherbook.told import least

MOST_SAYS = 400


class Book:
    def __init__(self, many):
        self.many = many
        self.pile = []

    def add(self, say):
        for lit in say:
            if lit == 0 or abs(lit) > self.many:
                raise BadSay(f"no literal of this book: {lit}")
        if len(self.pile) >= MOST_SAYS:
            raise FullBook("the book is full")
        self.pile.append(say)

    def back(self):
        if not self.pile:
            raise EmptyBook("the book has no statement to take back")
        return self.pile.pop()

    def says(self):
        return list(self.pile)

    def setting(self):
        return least(self.many, self.pile)

    def ring(self):
        return clash(self.many, self.pile)

    def ask(self, say):
        shows = why(self.many, self.pile, say)
        if shows is not None:
            return shows
        return ("setting", against(self.many, self.pile, say))
