"""One good bale, and what can go wrong with each of its parts."""

from balepress.errors import BadBody, BadCheck, BadHead, BadMark, BadTail, Behind
from tests.bales import MARK, turned, wrong_body_block
from tests.reckoned import bale_of, block_of, blocks_of, checked, remainder, tail_of
from tests.samples import spread


class Fault:
    """A part of a bale gone wrong: which part, what stands there, the refusal, and behind how many of its bytes."""

    def __init__(self, part, row, error, many):
        self.part, self.row, self.error, self.many = part, row, error, many


TEXT = spread(5, 64, 256) + [7] * 64 + spread(6, 30, 5)
GOOD = [MARK] + blocks_of(TEXT) + [tail_of(TEXT), []]
BALE = sum(GOOD, [])


def told_ahead(many):
    """What so many bytes of the good bale tell."""
    ends = [place_of(part) for part in (2, 3, 4)]
    return TEXT[:64 * sum(end <= many for end in ends)]


def mark_faults():
    return [Fault(0, MARK[:place] + [byte] + MARK[place + 1:], BadMark, place + 1)
            for place in range(3) for byte in (0, 1, 66, 184, 255) if byte != MARK[place]]


def head_faults(part):
    row = GOOD[part]
    rows = [turned(row, place, mask) for place in range(3) for mask in (1, 128, 255)]
    for first, inside in ((row[0], 0), (row[0] | 1, 0), (row[0], 65), (0, 65), (row[0], 255), (192, 128)):
        if (first, inside) != (0, 0):
            rows.append([first, inside, remainder([first, inside], 8)] + row[3:])
    return [Fault(part, row, BadHead, 3) for row in rows]


def block_faults(part):
    row = GOOD[part]
    faults = [Fault(part, turned(row, place, mask), BadCheck, len(row))
              for place in {3, len(row) // 2, len(row) - 3, len(row) - 2, len(row) - 1} for mask in (1, 128)]
    wrong = wrong_body_block(row[0] % 64 + 1)
    faults.append(Fault(part, wrong, BadBody, len(wrong)))
    # Wrong by its check and by its body: the check is looked at first.
    faults.append(Fault(part, turned(wrong, 3), BadCheck, len(wrong)))
    return head_faults(part) + faults


def tail_faults():
    row = tail_of(TEXT)
    rows = [turned(row, place, mask) for place in range(3, 11) for mask in (1, 128)]
    rows += [checked(turned(row[:-2], place, mask)) for place in range(3, 9) for mask in (1, 128)]
    rows += [tail_of(TEXT[:-1]), tail_of(TEXT + [0]), tail_of([]), tail_of(TEXT[::-1])]
    return head_faults(4) + [Fault(4, row, BadTail, 11) for row in rows]


def behind_faults():
    return [Fault(5, row, Behind, 1) for row in ([0], [184, 66, 1], tail_of(TEXT), tail_of([]), bale_of([1]))]


def faults():
    told = mark_faults() + tail_faults() + behind_faults()
    for part in (1, 2, 3):
        told += block_faults(part)
    # Behind the block of 30 signs only the tail may come, however good the other block is.
    for text in ([1], [1] * 64, TEXT[128:], spread(1, 64, 256)):
        told.append(Fault(4, block_of(text, TEXT[:128]) + tail_of(TEXT + text), BadHead, 3))
    return told


def row_with(*some):
    parts = list(GOOD)
    for fault in some:
        parts[fault.part] = fault.row
    return sum(parts, [])


def place_of(part):
    return sum(len(row) for row in GOOD[:part])
