"""Pressing: a text into a bale, at once or as its signs come."""

from balepress.blocks import put_block
from balepress.courses import BLOCK_SIGNS, MARK, Course
from balepress.errors import Over
from balepress.rows import need_row


class Presser:
    def __init__(self):
        self.course = Course()
        self.waiting = []
        self.begun = False
        self.finished = False

    def need_unfinished(self):
        if self.finished:
            raise Over("the bale is finished")

    def mark_once(self):
        if self.begun:
            return []
        self.begun = True
        return list(MARK)

    def next_block(self, signs):
        block = put_block(signs, self.course.window())
        self.course.go_on(signs)
        return block

    def feed(self, text):
        self.need_unfinished()
        signs = self.waiting + need_row(text)
        told = self.mark_once()
        begin = 0
        while len(signs) - begin >= BLOCK_SIGNS:
            told.extend(self.next_block(signs[begin:begin + BLOCK_SIGNS]))
            begin = begin + BLOCK_SIGNS
        self.waiting = signs[begin:]
        return told

    def finish(self):
        self.need_unfinished()
        self.finished = True
        told = self.mark_once()
        if len(self.waiting) > 0:
            told.extend(self.next_block(self.waiting))
        return told + self.course.tail()


def pressed(text):
    presser = Presser()
    bale = presser.feed(text)
    return bale + presser.finish()
