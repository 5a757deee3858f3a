"""Codes by lengths: told for each thing, and read from bits."""

from balepress.errors import BadCode, BadLengths, NoBits
from balepress.shares import MOST_LENGTH, are_of_things


def room_taken(lengths):
    return sum([1 << (MOST_LENGTH - length) for length in lengths if length > 0])


def need_lengths(lengths):
    if not are_of_things(lengths, MOST_LENGTH):
        raise BadLengths("lengths are 1 to 300 whole numbers from 0 to 12, one of them above 0")
    if room_taken(lengths) > (1 << MOST_LENGTH):
        raise BadLengths("there are fewer codes than these lengths ask for")


def codes_of(lengths):
    need_lengths(lengths)
    codes = [None] * len(lengths)
    code = 0
    for size in range(1, MOST_LENGTH + 1):
        code = code << 1
        for place, length in enumerate(lengths):
            if length == size:
                codes[place] = (code, size)
                code = code + 1
    return codes


class CodeReader:
    def __init__(self, lengths):
        self.things = {}
        self.beginnings = {}
        for place, pair in enumerate(codes_of(lengths)):
            if pair is not None:
                self.things[pair] = place
                self.keep_beginnings(pair[0], pair[1])

    def keep_beginnings(self, code, length):
        for size in range(length):
            self.beginnings[(code >> (length - size), size)] = True

    def thing(self, reader):
        begin = reader.place()
        code = 0
        size = 0
        while (code, size) in self.beginnings:
            if reader.left() == 0:
                reader.go(begin)
                raise NoBits("the bits end within a code")
            code = (code << 1) | reader.take(1)
            size = size + 1
        if (code, size) not in self.things:
            reader.go(begin)
            raise BadCode("no code begins with these bits")
        return self.things[(code, size)]
