import unittest

from balepress.courses import Course, tail_of
from tests.reckoned import checked, remainder
from tests.reckoned import tail_of as tail_by_another_way
from tests.samples import spread


class TailTest(unittest.TestCase):
    def test_counts_go_by_2_to_the_32(self):
        for count in (0, 1, 255, 256, 65535, 65536, 2 ** 24, 2 ** 31, 2 ** 32 - 1, 2 ** 32, 2 ** 32 + 7, 2 ** 40 + 258,
                      0x12345678, 0x912345678):
            for check in (0, 1, 255, 256, 65535):
                row = [0, 0, remainder([0, 0], 8)] + list((count % 2 ** 32).to_bytes(4, "big"))
                self.assertEqual(tail_of(count, check), checked(row + [check // 256, check % 256]))


class CourseTest(unittest.TestCase):
    def test_the_window_is_what_stands_ahead_in_the_group(self):
        course, text = Course(), spread(1, 64 * 9 + 5, 256)
        for begin in range(0, len(text), 64):
            self.assertEqual(course.window(), text[begin - begin % 256:begin])
            self.assertIsNone(course.go_on(text[begin:begin + 64]))
            self.assertEqual(course.tail(), tail_by_another_way(text[:begin + 64]))

    def test_no_block_yet(self):
        self.assertEqual(Course().window(), [])
        self.assertEqual(Course().tail(), tail_by_another_way([]))

    def test_what_is_handed_in_and_told_is_free(self):
        course, text = Course(), [1, 2, 3]
        course.go_on(text)
        text.append(4)
        course.window().append(5)
        course.tail().append(6)
        self.assertEqual(course.window(), [1, 2, 3])
        self.assertEqual(course.tail(), tail_by_another_way([1, 2, 3]))


if __name__ == "__main__":
    unittest.main()
