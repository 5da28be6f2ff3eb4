"""Statements shown as text, and lines read as statements."""

from eitherbook.errors import BadLine

LAST_NUMBER = 60


def shown_lit(lit):
    number = abs(lit)
    if lit < 0:
        return f"not {number}"
    return f"{number}"


def shown(say):
    a = shown_lit(say[0])
    b = shown_lit(say[1])
    if a == b:
        return a
    return f"{a} or {b}"


# Held against each number as it is written, so that a nought ahead, a sign or any other spelling is none of them.
def read_number(word):
    for number in range(1, LAST_NUMBER + 1):
        if word == str(number):
            return number
    raise BadLine(f"no number of a switch: {word!r}")


def read_lit(words):
    if len(words) == 1:
        return read_number(words[0])
    if len(words) == 2 and words[0] == "not":
        return -read_number(words[1])
    raise BadLine(f"no literal: {words!r}")


def joined(a, word, b):
    if word == "or":
        return [(a, b)]
    if word == "then":
        return [(-a, b)]
    if word == "as":
        return [(-a, b), (a, -b)]
    if word == "unlike":
        return [(a, b), (-a, -b)]
    raise BadLine(f"no word between two literals: {word!r}")


# A blank too many leaves an empty word, which is neither a literal nor a word between two.
def read(line):
    words = line.split(" ")
    end = 2 if words[0] == "not" else 1
    a = read_lit(words[:end])
    if len(words) == end:
        return [(a, a)]
    return joined(a, words[end], read_lit(words[end + 1:]))
