"""Ranges: some signs of a bale, without reading all of its blocks."""

from balepress.blocks import block_size, take_block
from balepress.courses import BLOCK_SIGNS, GROUP_BLOCKS
from balepress.errors import NoRange
from balepress.parts import blocks_in
from balepress.rows import is_count, need_row


def need_counts(begin, count):
    if not is_count(begin) or not is_count(count):
        raise NoRange("a range has a begin and a count, whole numbers from 0 on")


def need_within(begin, count, blocks):
    if begin + count > sum([head.count for place, head in blocks]):
        raise NoRange("the range goes beyond the last sign")


def signs_in(bale, blocks):
    signs = []
    for place, head in blocks:
        # The first block begins a group, so groups begin at each so many signs.
        ahead = len(signs) % (BLOCK_SIGNS * GROUP_BLOCKS)
        window = signs[len(signs) - ahead:]
        signs.extend(take_block(bale[place:place + block_size(head)], window))
    return signs


def told_range(row, begin, count):
    bale = need_row(row)
    need_counts(begin, count)
    blocks = blocks_in(bale)
    need_within(begin, count, blocks)
    if count == 0:
        return ([], 0)
    first = begin // BLOCK_SIGNS // GROUP_BLOCKS * GROUP_BLOCKS
    end = (begin + count - 1) // BLOCK_SIGNS + 1
    signs = signs_in(bale, blocks[first:end])
    ahead = begin - first * BLOCK_SIGNS
    return (signs[ahead:ahead + count], end - first)
