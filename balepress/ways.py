"""Four ways to tell 1 to 64 signs behind a window of at most 192, and which of them is the shortest."""

from balepress.bits import BitRow
from balepress.codes import CodeReader, codes_of
from balepress.errors import BadBody, BadCode, BadLengths, BadRow, BadTable
from balepress.rows import need_row
from balepress.shares import lengths_of
from balepress.tables import MANY, put_table, take_table
from balepress.windows import LEAST_COPIED, add_copy, need_window, pieces_of

MOST_SIGNS = 64
MOST_AHEAD = 192
FIRST_COPY = 256


def need_ahead(before):
    return need_window(before, MOST_AHEAD)


def need_signs(text, before):
    signs = need_row(text)
    if len(signs) == 0 or len(signs) > MOST_SIGNS:
        raise BadRow("a body tells 1 to 64 signs")
    need_ahead(before)
    return signs


def runs_of(signs):
    runs = []
    begin = 0
    for place in range(1, len(signs) + 1):
        if place == len(signs) or signs[place] != signs[begin]:
            runs.append((signs[begin], place - begin))
            begin = place
    return runs


def thing_of(piece):
    if piece[0] == "sign":
        return piece[1]
    return FIRST_COPY + piece[2] - LEAST_COPIED


def shares_of(things):
    counts = [0] * MANY
    for thing in things:
        counts[thing] = counts[thing] + 1
    return lengths_of(counts)


def signs_ahead(before):
    return [] if before is None else list(before)


def need_room(signs, size, end):
    if len(signs) + size > end:
        raise BadBody("more signs come than are asked for")


def lay_copy(signs, back, size, end):
    need_room(signs, size, end)
    if back == 0 or back > len(signs):
        raise BadBody("a copy has no sign to begin with")
    add_copy(signs, back, size)


def codes_in(reader):
    try:
        return CodeReader(take_table(reader))
    except BadTable:
        raise BadBody("the table has too many lengths") from None
    except BadLengths:
        raise BadBody("the table's lengths are those of no codes") from None


def thing_in(reader, codes):
    try:
        return codes.thing(reader)
    except BadCode:
        raise BadBody("no code begins with these bits") from None


class Way:
    # Nothing is asked of the base's own number, tell and read: each way has others in their place.
    def number(self):
        pass

    def tell(self, bits, text, before):
        pass

    def read(self, reader, count, before):
        pass

    def cost(self, text, before):
        bits = BitRow()
        self.tell(bits, text, before)
        return bits.many()


class RawWay(Way):
    def number(self):
        return 0

    def tell(self, bits, text, before):
        for sign in need_signs(text, before):
            bits.put(sign, 8)

    def read(self, reader, count, before):
        return [reader.take(8) for step in range(count)]


class RunWay(Way):
    def number(self):
        return 1

    def tell(self, bits, text, before):
        for sign, size in runs_of(need_signs(text, before)):
            bits.put(size - 1, 6)
            bits.put(sign, 8)

    def read(self, reader, count, before):
        signs = []
        while len(signs) < count:
            size = reader.take(6) + 1
            sign = reader.take(8)
            need_room(signs, size, count)
            signs.extend([sign] * size)
        return signs


class CopyWay(Way):
    def number(self):
        return 2

    def tell(self, bits, text, before):
        need_signs(text, before)
        for piece in pieces_of(text, before):
            if piece[0] == "sign":
                bits.put(0, 1)
                bits.put(piece[1], 8)
            else:
                bits.put(1, 1)
                bits.put(piece[1], 8)
                bits.put(piece[2] - LEAST_COPIED, 4)

    def read(self, reader, count, before):
        signs = signs_ahead(before)
        begin = len(signs)
        end = begin + count
        while len(signs) < end:
            if reader.take(1) == 0:
                signs.append(reader.take(8))
            else:
                back = reader.take(8)
                size = reader.take(4) + LEAST_COPIED
                lay_copy(signs, back, size, end)
        return signs[begin:]


class ShareWay(Way):
    def number(self):
        return 3

    def tell(self, bits, text, before):
        need_signs(text, before)
        pieces = pieces_of(text, before)
        lengths = shares_of([thing_of(piece) for piece in pieces])
        codes = codes_of(lengths)
        put_table(bits, lengths)
        for piece in pieces:
            pair = codes[thing_of(piece)]
            bits.put(pair[0], pair[1])
            if piece[0] == "copy":
                bits.put(piece[1], 8)

    def read(self, reader, count, before):
        signs = signs_ahead(before)
        begin = len(signs)
        end = begin + count
        codes = codes_in(reader)
        while len(signs) < end:
            thing = thing_in(reader, codes)
            if thing < FIRST_COPY:
                signs.append(thing)
            else:
                back = reader.take(8)
                lay_copy(signs, back, thing - FIRST_COPY + LEAST_COPIED, end)
        return signs[begin:]


def ways():
    return [RawWay(), RunWay(), CopyWay(), ShareWay()]


def best_way(text, before=None):
    # Of several with one cost min tells the first, and they stand by numbers.
    return min(ways(), key=lambda way: way.cost(text, before))
