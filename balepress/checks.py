"""Checks of 8 or 16 bits over rows."""

from balepress.errors import BadBits
from balepress.rows import is_whole, need_row

ALL_ONES = {8: 255, 16: 65535}
LOWER_BITS = {8: 29, 16: 45}


def with_byte(state, byte, wide):
    state = state ^ (byte << (wide - 8))
    for step in range(8):
        goes_out = state >> (wide - 1)
        state = (state << 1) & ALL_ONES[wide]
        if goes_out == 1:
            state = state ^ LOWER_BITS[wide]
    return state


class Check:
    def __init__(self, wide=16):
        # The kind is asked ahead of the dict, which not every kind can be sought in.
        if not is_whole(wide, 8, 16) or wide not in ALL_ONES:
            raise BadBits("a check has 8 or 16 bits")
        self.wide = wide
        self.state = ALL_ONES[wide]

    def add(self, row):
        for byte in need_row(row):
            self.state = with_byte(self.state, byte, self.wide)

    def value(self):
        return self.state

    def twin(self):
        other = Check(self.wide)
        other.state = self.state
        return other


def check_of(row, wide=16):
    check = Check(wide)
    check.add(row)
    return check.value()


def in_two_bytes(number):
    return [number >> 8, number & 255]


def with_check(row):
    return row + in_two_bytes(check_of(row))


def ends_in_check(row):
    return with_check(row[:-2]) == row
