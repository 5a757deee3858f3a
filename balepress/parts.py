"""The parts of a bale, its mark, its blocks and its tail: where each begins and ends, by their heads alone."""

from balepress.blocks import HEAD_BYTES, block_size, head_of
from balepress.checks import ends_in_check
from balepress.courses import BLOCK_SIGNS, MARK, in_four_bytes
from balepress.errors import BadHead, BadMark, BadTail, Behind, Cut

COUNT_END = 7
TAIL_BYTES = 11


def need_mark(bale):
    # A bale that is only begun is held against as much of the mark.
    begin = tuple(bale[:len(MARK)])
    if begin != MARK[:len(begin)]:
        raise BadMark("a bale begins with 184, 66, 1")


def next_head(row, many_signs):
    head = head_of(row)
    # Only the last block may have told fewer than 64 signs.
    if head is not None and many_signs % BLOCK_SIGNS != 0:
        raise BadHead("behind a block of fewer than 64 signs only the tail may come")
    return head


def part_at(bale, place, many_signs):
    head_end = place + HEAD_BYTES
    if len(bale) < head_end:
        return None
    head = next_head(bale[place:head_end], many_signs)
    end = place + (TAIL_BYTES if head is None else block_size(head))
    if len(bale) < end:
        return None
    return (head, end)


def need_part(bale, place, many_signs):
    part = part_at(bale, place, many_signs)
    if part is None:
        raise Cut("the bale ends ahead of its tail's end")
    return part


def need_last(bale, end):
    if len(bale) > end:
        raise Behind("more bytes come behind the tail")


def need_tail(tail, many_signs):
    # The check of all signs is taken as it stands: it can't be told without the bodies.
    if tail[HEAD_BYTES:COUNT_END] != in_four_bytes(many_signs) or not ends_in_check(tail):
        raise BadTail("the tail's count or its own check is wrong")


def blocks_in(bale):
    need_mark(bale)
    blocks = []
    many_signs = 0
    place = len(MARK)
    part = need_part(bale, place, many_signs)
    while part[0] is not None:
        blocks.append((place, part[0]))
        many_signs = many_signs + part[0].count
        place = part[1]
        part = need_part(bale, place, many_signs)
    need_tail(bale[place:part[1]], many_signs)
    need_last(bale, part[1])
    return blocks
