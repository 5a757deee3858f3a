"""Tables of 272 lengths, told by items in the fewest bits."""

from balepress.errors import BadTable, NoBits
from balepress.rows import are_whole
from balepress.shares import MOST_BITS

MANY = 272
AGAIN = 7
LEAST_AGAIN = 3
MOST_AGAIN = 66


def need_table(lengths):
    if not are_whole(lengths, 0, MOST_BITS) or len(lengths) != MANY:
        raise BadTable("a table is a list of 272 whole numbers from 0 to 6")


def again_from(lengths, place, ahead):
    most = min(MOST_AGAIN, MANY - place)
    again = 0
    while again < most and lengths[place + again] == ahead:
        again = again + 1
    return again


def put_table(bits, lengths):
    need_table(lengths)
    place = 0
    ahead = 0
    while place < MANY:
        # An item of 9 bits costs no more than three of 3 bits, so the longest one that fits is never too dear.
        again = again_from(lengths, place, ahead)
        if again >= LEAST_AGAIN:
            bits.put(AGAIN, 3)
            bits.put(again - LEAST_AGAIN, 6)
            place = place + again
        else:
            ahead = lengths[place]
            bits.put(ahead, 3)
            place = place + 1


def lengths_in_items(reader):
    lengths = []
    ahead = 0
    while len(lengths) < MANY:
        told = reader.take(3)
        if told == AGAIN:
            lengths.extend([ahead] * (reader.take(6) + LEAST_AGAIN))
        else:
            ahead = told
            lengths.append(ahead)
    return lengths


def take_table(reader):
    begin = reader.place()
    try:
        lengths = lengths_in_items(reader)
    except NoBits:
        reader.go(begin)
        raise NoBits("the bits end within a table") from None
    if len(lengths) > MANY:
        reader.go(begin)
        raise BadTable("more than 272 lengths come")
    return lengths
