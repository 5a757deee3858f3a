"""Opening: a bale into its text, at once or as its bytes come."""

from balepress.blocks import take_block
from balepress.courses import MARK, Course
from balepress.errors import BadTail, Cut
from balepress.parts import need_last, need_mark, part_at
from balepress.rows import need_row


class Reading:
    def __init__(self):
        self.course = Course()
        self.waiting = []
        self.begun = False
        self.finished = False

    def twin(self):
        other = Reading()
        other.course = self.course.twin()
        other.waiting = list(self.waiting)
        other.begun = self.begun
        other.finished = self.finished
        return other

    def read_mark(self):
        need_mark(self.waiting)
        if len(self.waiting) >= len(MARK):
            self.begun = True
            self.waiting = self.waiting[len(MARK):]

    def read_tail(self, tail):
        if tail != self.course.tail():
            raise BadTail("the tail's count or one of its checks is wrong")
        self.finished = True

    def read_block(self, block):
        text = take_block(block, self.course.window())
        self.course.go_on(text)
        return text

    def read_parts(self):
        signs = []
        place = 0
        while not self.finished:
            part = part_at(self.waiting, place, self.course.many_signs)
            if part is None:
                break
            row = self.waiting[place:part[1]]
            place = part[1]
            if part[0] is None:
                self.read_tail(row)
            else:
                signs.extend(self.read_block(row))
        self.waiting = self.waiting[place:]
        return signs

    def go_through(self, row):
        self.waiting = self.waiting + row
        if not self.begun:
            self.read_mark()
        signs = self.read_parts() if self.begun else []
        if self.finished:
            need_last(self.waiting, 0)
        return signs


class Opener:
    def __init__(self):
        self.reading = Reading()

    def feed(self, row):
        come = need_row(row)
        # A refused feeding must leave all as it was: a twin goes through it, and is kept if nothing is refused.
        trial = self.reading.twin()
        signs = trial.go_through(come)
        self.reading = trial
        return signs

    def over(self):
        return self.reading.finished

    def finish(self):
        if not self.over():
            raise Cut("the bale ends ahead of its tail's end")


def opened(row):
    opener = Opener()
    text = opener.feed(row)
    opener.finish()
    return text
