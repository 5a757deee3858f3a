import unittest

from balepress.errors import BadRow
from balepress.rows import is_row, need_row
from tests.samples import no_rows

ROWS = [[], [0], [1], [255], [0, 255], [255, 0], [7, 7, 7], list(range(256)), list(range(255, -1, -1)) * 20]


class RowsTest(unittest.TestCase):
    def test_rows(self):
        for row in ROWS:
            kept = list(row)
            self.assertIs(is_row(row), True)
            self.assertEqual(need_row(row), kept)
            self.assertEqual(row, kept)

    def test_each_number_by_itself(self):
        for number in range(-300, 600):
            self.assertIs(is_row([number]), 0 <= number <= 255, number)

    def test_no_rows(self):
        for place, thing in enumerate(no_rows()):
            with self.subTest(place=place):
                self.assertIs(is_row(thing), False)
                with self.assertRaises(BadRow):
                    need_row(thing)

    def test_list_within_at_each_place(self):
        for place in range(5):
            thing = [1, 2, 3, 4, 5]
            thing[place] = [place]
            self.assertIs(is_row(thing), False)
            with self.assertRaises(BadRow):
                need_row(thing)
            self.assertEqual(thing[place], [place])

    def test_list_within_itself(self):
        thing = [1]
        thing.append(thing)
        self.assertIs(is_row(thing), False)
        self.assertRaises(BadRow, need_row, thing)

    def test_need_row_tells_a_new_list(self):
        for row in ROWS:
            handed = list(row)
            told = need_row(handed)
            self.assertIs(type(told), list)
            self.assertIsNot(told, handed)
            handed.append(9)
            self.assertEqual(told, row)
            told.extend([8, 8])
            self.assertEqual(handed, row + [9])
            self.assertEqual(need_row(handed), row + [9])


if __name__ == "__main__":
    unittest.main()
