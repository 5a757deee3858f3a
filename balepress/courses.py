"""What a bale has come to, block by block: the window of its next block, and the tail that would close it."""

from balepress.blocks import head_row
from balepress.checks import Check, in_two_bytes, with_check

MARK = (184, 66, 1)
BLOCK_SIGNS = 64
GROUP_BLOCKS = 4


def in_four_bytes(number):
    return in_two_bytes((number >> 16) & 65535) + in_two_bytes(number & 65535)


def tail_of(many_signs, signs_check):
    return with_check(head_row(0, 0) + in_four_bytes(many_signs) + in_two_bytes(signs_check))


class Course:
    def __init__(self):
        self.blocks = 0
        self.many_signs = 0
        self.signs_check = Check()
        self.group = []

    def window(self):
        return list(self.group)

    def go_on(self, text):
        self.blocks = self.blocks + 1
        self.many_signs = self.many_signs + len(text)
        self.signs_check.add(text)
        if self.blocks % GROUP_BLOCKS == 0:
            self.group = []
        else:
            self.group = self.group + text

    def twin(self):
        other = Course()
        other.blocks = self.blocks
        other.many_signs = self.many_signs
        other.signs_check = self.signs_check.twin()
        other.group = self.window()
        return other

    def tail(self):
        return tail_of(self.many_signs, self.signs_check.value())
