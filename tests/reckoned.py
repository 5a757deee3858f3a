"""Second ways of reckoning, kept apart from how the program does it. Bits stand in Python texts of 0 and 1."""

import itertools
import re

from balepress.bits import BitReader, BitRow
from balepress.errors import BadBody, BadCode, NoBits
from balepress.shares import lengths_of
from balepress.tables import put_table


def signs_of(number, size):
    return format(number, f"0{size}b") if size else ""


def bytes_of(signs):
    filled = signs + "0" * (-len(signs) % 8)
    return [int(filled[place:place + 8], 2) for place in range(0, len(filled), 8)]


def signs_in(bits):
    return "".join(format(byte, "08b") for byte in bits.row())[:bits.many()]


def remainder(row, wide):
    """The check by another way: the rest of one long division, its first bits turned round."""
    bits = []
    for byte in row:
        bits += [int(sign) for sign in format(byte, "08b")]
    bits += [0] * wide
    for place in range(wide):
        bits[place] ^= 1
    divisor = [int(sign) for sign in format({8: 256 + 29, 16: 65536 + 45}[wide], "b")]
    for place in range(8 * len(row)):
        if bits[place] == 1:
            for step, bit in enumerate(divisor):
                bits[place + step] ^= bit
    return int("".join(str(bit) for bit in bits[8 * len(row):]), 2)


def room(lengths):
    return sum(2 ** (12 - length) for length in lengths if length > 0)


def codes_by_room(lengths):
    """Each code is the room that those ahead of it take, cut to its length."""
    codes = [None] * len(lengths)
    ahead = []
    for length, place in sorted((length, place) for place, length in enumerate(lengths) if length > 0):
        codes[place] = (room(ahead) >> (12 - length), length)
        ahead.append(length)
    return codes


def sought(lengths, signs):
    """What the bits tell by these lengths: a thing and how many bits it took, or the refusal."""
    codes = {signs_of(*pair): place for place, pair in enumerate(codes_by_room(lengths)) if pair is not None}
    for size in range(1, len(signs) + 1):
        if signs[:size] in codes:
            return codes[signs[:size]], size
        if not any(code.startswith(signs[:size]) for code in codes):
            return BadCode, size
    return NoBits, len(signs)


def read_items(signs):
    """The lengths that items tell, 272 and more of them, and how many bits they took; None where the bits end."""
    table, place = [], 0
    while len(table) < 272:
        item = re.compile("111([01]{6})|(?!111)([01]{3})").match(signs, place)
        if item is None:
            return None, place
        if item[1] is not None:
            table += [table[-1] if table else 0] * (int(item[1], 2) + 3)
        else:
            table.append(int(item[2], 2))
        place = item.end()
    return table, place


def copied(signs, back, size):
    """The last signs, so many as stand back, over and over."""
    return (signs[len(signs) - back:] * size)[:size]


def searched(text, before):
    """The pieces by a plain search: every copy is made and held against the text."""
    pieces, done = [], 0
    while done < len(text):
        ahead = ((before or []) + text[:done])[-255:]
        backs = [back for back in range(1, len(ahead) + 1) if ahead[-back] == text[done]]
        made = [(back, copied(ahead, back, 18)) for back in backs]
        piece = ("sign", text[done])
        for size in range(3, min(18, len(text) - done) + 1):
            made = [(back, signs) for back, signs in made if signs[:size] == text[done:done + size]]
            if made:
                piece = ("copy", min(made)[0], size)
        pieces.append(piece)
        done += 1 if piece[0] == "sign" else piece[2]
    return pieces


def raw_bits(text):
    return "".join(signs_of(sign, 8) for sign in text)


def run_bits(text):
    runs = [list(run) for sign, run in itertools.groupby(text)]
    return "".join(signs_of(len(run) - 1, 6) + signs_of(run[0], 8) for run in runs)


def copy_bits(pieces):
    """Of any pieces, not only of those that would be told."""
    bits = ""
    for piece in pieces:
        if piece[0] == "sign":
            bits += "0" + signs_of(piece[1], 8)
        else:
            bits += "1" + signs_of(piece[1], 8) + signs_of(piece[2] - 3, 4)
    return bits


def thing_told(piece):
    return piece[1] if piece[0] == "sign" else 253 + piece[2]


def table_bits(lengths):
    bits = BitRow()
    put_table(bits, lengths)
    return signs_in(bits)


def coded_bits(pieces, lengths):
    """Of any pieces by any lengths."""
    codes, bits = codes_by_room(lengths), ""
    for piece in pieces:
        bits += signs_of(*codes[thing_told(piece)])
        if piece[0] == "copy":
            bits += signs_of(piece[1], 8)
    return bits


def share_bits(pieces):
    """Which lengths and which items is free: they are those of lengths_of and put_table."""
    things = [thing_told(piece) for piece in pieces]
    lengths = lengths_of([things.count(thing) for thing in range(272)])
    return table_bits(lengths) + coded_bits(pieces, lengths)


def body_bits(number, text, before):
    if number == 0:
        return raw_bits(text)
    if number == 1:
        return run_bits(text)
    pieces = searched(text, before)
    return copy_bits(pieces) if number == 2 else share_bits(pieces)


def reader_of(signs, ahead=0):
    """A reader of these bits, and noughts to the byte's end, behind so many bits of ones."""
    reader = BitReader(bytes_of("1" * ahead + signs))
    reader.go(ahead)
    return reader


def laid(signs, back, size, room_left):
    """The signs with a copy behind them, or the refusal."""
    if not 1 <= back <= len(signs) or size > room_left:
        return BadBody
    return signs + copied(signs, back, size)


def run_told(signs, place, told, end):
    run = re.compile("([01]{6})([01]{8})").match(signs, place)
    if run is None:
        return NoBits, place
    many = int(run[1], 2) + 1
    return (BadBody if len(told) + many > end else told + [int(run[2], 2)] * many), run.end()


def piece_told(signs, place, told, end):
    piece = re.compile("0([01]{8})|1([01]{8})([01]{4})").match(signs, place)
    if piece is None:
        return NoBits, place
    if piece[1] is not None:
        return told + [int(piece[1], 2)], piece.end()
    return laid(told, int(piece[2], 2), int(piece[3], 2) + 3, end - len(told)), piece.end()


def code_told(signs, place, told, end, lengths):
    thing, size = sought(lengths, signs[place:place + 6])
    place += size
    if thing is BadCode:
        return BadBody, place
    if thing is NoBits:
        return NoBits, place
    if thing < 256:
        return told + [thing], place
    if len(signs) < place + 8:
        return NoBits, place
    return laid(told, int(signs[place:place + 8], 2), thing - 253, end - len(told)), place + 8


def body_read(number, signs, count, before):
    """The text that a body tells and how many bits it took; or the refusal, and None."""
    if number == 0:
        return (bytes_of(signs[:8 * count]), 8 * count) if len(signs) >= 8 * count else (NoBits, None)
    told, place, lengths = list(before or []), 0, None
    begin = len(told)
    if number == 3:
        lengths, place = read_items(signs)
        if lengths is None:
            return NoBits, None
        if len(lengths) > 272 or not any(lengths) or room(lengths) > 4096:
            return BadBody, None
    while len(told) < begin + count:
        if number == 3:
            told, place = code_told(signs, place, told, begin + count, lengths)
        else:
            told, place = {1: run_told, 2: piece_told}[number](signs, place, told, begin + count)
        if not isinstance(told, list):
            return told, None
    return told[begin:], place


def checked(row):
    check = remainder(row, 16)
    return row + [check // 256, check % 256]


def head_bytes(number, count, inside):
    row = [64 * number + count - 1, inside]
    return row + [remainder(row, 8)]


def block_with(number, count, body):
    """A block of any body, with right checks."""
    return checked(head_bytes(number, count, len(body)) + body)


def block_of(text, before=None):
    bodies = [body_bits(number, text, before) for number in range(4)]
    fewest = min(len(body) for body in bodies)
    number = [len(body) for body in bodies].index(fewest)
    return block_with(number, len(text), bytes_of(bodies[number]))


def tail_of(text):
    check = remainder(text, 16)
    count = [len(text) // 256 ** step % 256 for step in (3, 2, 1, 0)]
    return checked([0, 0, remainder([0, 0], 8)] + count + [check // 256, check % 256])


def blocks_of(text):
    """The rows of all blocks, each by what stands ahead in its 256 signs."""
    rows = []
    for begin in range(0, len(text), 64):
        rows.append(block_of(text[begin:begin + 64], text[begin - begin % 256:begin]))
    return rows


def bale_of(text):
    return [184, 66, 1] + sum(blocks_of(text), []) + tail_of(text)
