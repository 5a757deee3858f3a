"""Blocks: a head, a body told in one of the ways, and a check of both."""

from balepress.bits import BitReader, BitRow
from balepress.checks import check_of, ends_in_check, with_check
from balepress.errors import BadBody, BadCheck, BadHead, BadRow, NoBits
from balepress.rows import need_row
from balepress.ways import best_way, need_ahead, ways

HEAD_BYTES = 3
CHECK_BYTES = 2
MOST_INSIDE = 64


def head_row(first, inside):
    return [first, inside, check_of([first, inside], 8)]


class Head:
    def __init__(self, way, count, inside):
        self.way = way
        self.count = count
        self.inside = inside

    def row(self):
        return head_row(64 * self.way + self.count - 1, self.inside)


def head_of(row):
    told = need_row(row)
    if len(told) != HEAD_BYTES:
        raise BadRow("a head has three bytes")
    first = told[0]
    inside = told[1]
    if told != head_row(first, inside):
        raise BadHead("the head's check is wrong")
    if first == 0 and inside == 0:
        return None
    if inside == 0 or inside > MOST_INSIDE:
        raise BadHead("a body has 1 to 64 bytes")
    return Head(first // 64, first % 64 + 1, inside)


def block_size(head):
    return HEAD_BYTES + head.inside + CHECK_BYTES


def put_block(text, before=None):
    way = best_way(text, before)
    bits = BitRow()
    way.tell(bits, text, before)
    body = bits.row()
    head = Head(way.number(), len(text), len(body))
    return with_check(head.row() + body)


def need_head(block):
    if len(block) < HEAD_BYTES:
        raise BadHead("a block has three bytes and more")
    head = head_of(block[:HEAD_BYTES])
    if head is None:
        raise BadHead("a tail is no block")
    if len(block) != block_size(head):
        raise BadHead("the block has another length than its head tells")
    return head


def text_in(body, head, window):
    reader = BitReader(body)
    try:
        text = ways()[head.way].read(reader, head.count, window)
    except NoBits:
        raise BadBody("the body ends ahead of its last sign") from None
    if not reader.at_end():
        raise BadBody("more than filling noughts stands behind the last sign")
    return text


def take_block(row, before=None):
    block = need_row(row)
    window = need_ahead(before)
    head = need_head(block)
    if not ends_in_check(block):
        raise BadCheck("the block's check is wrong")
    return text_in(block[HEAD_BYTES:-CHECK_BYTES], head, window)
