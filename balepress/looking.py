"""Looks into a bale: what each of its blocks is, and where it stands."""

from balepress.blocks import block_size
from balepress.opening import opened
from balepress.parts import blocks_in
from balepress.rows import need_row


def looked(row):
    bale = need_row(row)
    # A look refuses all that opening refuses: the heads alone would not tell a wrong body.
    opened(bale)
    return [(place, head.way, head.count, block_size(head)) for place, head in blocks_in(bale)]
