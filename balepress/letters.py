"""Rows as letters a to p, two for each byte."""

from balepress.errors import BadLetters
from balepress.rows import need_row

LETTERS = "abcdefghijklmnop"


def lettered(row):
    return "".join([LETTERS[byte // 16] + LETTERS[byte % 16] for byte in need_row(row)])


def need_letters(letters):
    if not isinstance(letters, str) or len(letters) % 2 != 0:
        raise BadLetters("letters are a text, two for each byte")
    for letter in letters:
        if letter not in LETTERS:
            raise BadLetters("the letters go from a to p")


def row_in(letters):
    need_letters(letters)
    numbers = [LETTERS.index(letter) for letter in letters]
    return [16 * numbers[place] + numbers[place + 1] for place in range(0, len(numbers), 2)]
