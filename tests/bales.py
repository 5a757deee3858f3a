"""Whole bales for several tests, and second ways of reckoning what is told of them."""

from balepress.errors import BadBody, BadCheck, BadHead, BadMark, BadTail, Behind, Cut, NoRange
from tests.reckoned import (block_with, body_bits, body_read, bytes_of, checked, copied, copy_bits, raw_bits, remainder,
                            run_bits, tail_of)
from tests.samples import spread

MARK = [184, 66, 1]
COUNTS = [0, 1, 63, 64, 65, 128, 256, 257, 300]


def texts(counts=COUNTS):
    """For each count several texts, so that all four ways come."""
    told = []
    for count in counts:
        told += [[7] * count, spread(count, count, 256), spread(count, count, 6), (list(range(70)) * 9)[:count]]
    return told


def cut(row, sizes):
    """The row in pieces of these sizes, over and over; one of them at least is above 0."""
    pieces, begin, step = [], 0, 0
    while begin < len(row):
        size = sizes[step % len(sizes)]
        pieces.append(row[begin:begin + size])
        begin, step = begin + size, step + 1
    return pieces


def bale_with(blocks, text):
    return MARK + sum(blocks, []) + tail_of(text)


def any_way_block(number, text, before=()):
    """A block in a way that need not be the best; None where its body has no room."""
    body = bytes_of(body_bits(number, text, list(before)))
    return block_with(number, len(text), body) if len(body) <= 64 else None


def filled(piece, count=64):
    """Pieces of so many signs, this one first."""
    pieces, left = [piece], count - (1 if piece[0] == "sign" else piece[2])
    while left > 0:
        size = min(18, left)
        pieces.append(("copy", 1, size) if size >= 3 else ("sign", left))
        left -= size if size >= 3 else 1
    return pieces


def text_by(pieces, before):
    """The text that pieces tell; they reach no farther back than there are signs."""
    signs = list(before)
    for piece in pieces:
        signs += [piece[1]] if piece[0] == "sign" else copied(signs, piece[1], piece[2])
    return signs[len(before):]


def copy_block(pieces, count=64):
    return block_with(2, count, bytes_of(copy_bits(pieces)))


def wrong_body_block(count=64):
    """Right checks, but a run goes beyond the count, or the body ends ahead of it."""
    return block_with(1, count, bytes_of(run_bits([3] * (count + 1 if count < 64 else 63))))


def turned(row, place, mask=1):
    """The row with another byte there."""
    return row[:place] + [row[place] ^ mask] + row[place + 1:]


def read_head(row):
    """A head's way, count and size of its block; None for a tail; or the refusal."""
    if row[2] != remainder(row[:2], 8):
        return BadHead
    if row[:2] == [0, 0]:
        return None
    return (row[0] >> 6, (row[0] & 63) + 1, row[1] + 5) if 0 < row[1] < 65 else BadHead


def read_block(block, count, before):
    if checked(block[:-2]) != block:
        return BadCheck
    signs = raw_bits(block[3:-2])
    told, taken = body_read(block[0] >> 6, signs, count, before)
    if isinstance(told, list) and signs[taken:] in ["0" * size for size in range(8)]:
        return told
    return BadBody


def told_by(row):
    """What an opener makes of these bytes: the signs, the refusal or None, and whether the tail was read."""
    if row[:3] != MARK[:len(row)]:
        return [], BadMark, False
    text, place = [], 3
    while len(row) >= place + 3:
        head = read_head(row[place:place + 3])
        if head is BadHead or head is not None and len(text) % 64 > 0:
            return text, BadHead, False
        size = 11 if head is None else head[2]
        if len(row) < place + size:
            break
        part = row[place:place + size]
        place += size
        if head is None:
            if part != tail_of(text):
                return text, BadTail, False
            return text, (Behind if len(row) > place else None), True
        signs = read_block(part, head[1], text[len(text) // 256 * 256:])
        if not isinstance(signs, list):
            return text, signs, False
        text = text + signs
    return text, None, False


def opened_by(row):
    """The text of a whole bale, or the refusal."""
    text, refusal, over = told_by(row)
    return refusal or (text if over else Cut)


def looked_by(row):
    refused = opened_by(row)
    if not isinstance(refused, list):
        return refused
    told, place = [], 3
    while read_head(row[place:place + 3]) is not None:
        way, count, size = read_head(row[place:place + 3])
        told.append((place, way, count, size))
        place += size
    return told


def heads_by(row):
    """The places, counts and sizes of all blocks by their heads alone, or the refusal."""
    if row[:3] != MARK[:len(row)]:
        return BadMark
    found, place = [], 3
    while len(row) >= place + 3:
        head = read_head(row[place:place + 3])
        if head is BadHead or head is not None and found and found[-1][1] < 64:
            return BadHead
        size = 11 if head is None else head[2]
        if len(row) < place + size:
            return Cut
        if head is None:
            tail = row[place:place + 11]
            many = sum(count for begin, count, inside in found)
            if checked(tail[:-2]) != tail or int.from_bytes(bytes(tail[3:7]), "big") != many:
                return BadTail
            return Behind if len(row) > place + 11 else found
        found.append((place, head[1], size))
        place += size
    return Cut


def range_by(row, begin, count):
    """The signs and how many bodies were read, or the refusal; begin and count are whole numbers from 0 on."""
    found = heads_by(row)
    if not isinstance(found, list):
        return found
    starts, many = [], 0
    for place, size, inside in found:
        starts.append(many)
        many += size
    if begin + count > many:
        return NoRange
    signs, read = {}, 0
    for number, (place, size, inside) in enumerate(found):
        if count > 0 and starts[number] < begin + count and number // 4 >= begin // 256:
            ahead = [signs[step] for step in range(starts[number] // 256 * 256, starts[number])]
            text = read_block(row[place:place + inside], size, ahead)
            if not isinstance(text, list):
                return text
            signs.update(enumerate(text, starts[number]))
            read += 1
    return [signs[step] for step in range(begin, begin + count)], read
