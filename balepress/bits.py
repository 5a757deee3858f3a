"""Numbers put into a row of bits, and taken from one, the highest bit first."""

from balepress.errors import BadBits, NoBits
from balepress.rows import is_whole, need_row

MOST_SIZE = 24


def need_size(size):
    if not is_whole(size, 0, MOST_SIZE):
        raise BadBits("a size is a whole number from 0 to 24")


def ones(size):
    return (1 << size) - 1


def bits_at(row, place, size):
    end = place + size
    bytes_to_end = (end + 7) // 8
    number = 0
    for byte in row[place // 8:bytes_to_end]:
        number = (number << 8) | byte
    return (number >> (8 * bytes_to_end - end)) & ones(size)


class BitRow:
    def __init__(self):
        self.whole_bytes = []
        self.rest = 0
        self.rest_size = 0

    def put(self, number, size):
        need_size(size)
        if not is_whole(number, 0, ones(size)):
            raise BadBits("the number does not go into so many bits")
        self.rest = (self.rest << size) | number
        self.rest_size = self.rest_size + size
        while self.rest_size >= 8:
            self.move_byte()

    def move_byte(self):
        self.rest_size = self.rest_size - 8
        self.whole_bytes.append(self.rest >> self.rest_size)
        self.rest = self.rest & ones(self.rest_size)

    def many(self):
        return 8 * len(self.whole_bytes) + self.rest_size

    def row(self):
        told = list(self.whole_bytes)
        if self.rest_size > 0:
            told.append(self.rest << (8 - self.rest_size))
        return told


class BitReader:
    def __init__(self, row):
        self.held = need_row(row)
        self.taken = 0

    def take(self, size):
        need_size(size)
        if size > self.left():
            raise NoBits("fewer bits are left")
        number = bits_at(self.held, self.taken, size)
        self.taken = self.taken + size
        return number

    def left(self):
        return 8 * len(self.held) - self.taken

    def place(self):
        return self.taken

    def go(self, place):
        if not is_whole(place, 0, 8 * len(self.held)):
            raise BadBits("a place is a whole number from 0 to the count of all bits")
        self.taken = place

    def at_end(self):
        left = self.left()
        return left < 8 and bits_at(self.held, self.taken, left) == 0
