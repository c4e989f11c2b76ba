"""Disks: point 29, and the heading pullstore/device.py."""

import itertools
import unittest

from helpers import HUGE, PromiseCase, chances, naive_frames, naive_scan
from pullstore.device import frames, mend, scan


class FramesTest(PromiseCase):
    def test_index_entry_and_check(self):
        self.gives([], frames, [])
        self.gives([0, 0, -1], frames, [0])
        self.gives([0, 4, -5], frames, [4])
        self.gives([0, 4, -5, 1, 7, -8], frames, [4, 7])
        self.gives([0, 1, -2, 1, 0, -1, 2, 59, -60], frames, [1, 0, 59])

    def test_any_list_of_integers_that_are_not_negative(self):
        self.gives([0, 3, -4, 1, 3, -4], frames, [3, 3])
        self.gives([0, HUGE, -10 ** 30, 1, 0, -1], frames, [HUGE, 0])
        self.gives(naive_frames(list(range(100, 0, -1))), frames, list(range(100, 0, -1)))


class ScanTest(PromiseCase):
    def check(self, cells, entries):
        self.gives((entries, 3 * len(entries)), scan, cells)
        self.gives(cells[:3 * len(entries)], mend, cells)
        # Mending twice changes nothing.
        self.gives(cells[:3 * len(entries)], mend, mend(cells))
        self.assertEqual(scan(mend(cells)), scan(cells))

    def test_empty_and_whole_disks(self):
        self.check([], [])
        self.check([0, 0, -1], [0])
        self.check([0, 4, -5, 1, 7, -8], [4, 7])
        for log in ([], [5], [2, 0, 1], [HUGE, 0], list(range(60))):
            self.check(frames(log), log)

    def test_a_disk_that_is_cut_anywhere(self):
        log = [4, 0, 7]
        for many in range(10):
            self.check(frames(log)[:many], log[:many // 3])

    def test_a_wrong_index(self):
        for wrong in (-1, 1, 2, HUGE, -HUGE, 10 * HUGE):
            self.check([wrong, 4, -5], [])
            self.check([wrong, 4, -5, 1, 5, -6], [])
        for wrong in (-1, 0, 2, 3):
            self.check([0, 4, -5, wrong, 7, -8], [4])
            self.check([0, 4, -5, wrong, 7, -8, 1, 7, -8], [4])

    def test_two_logs_one_after_the_other(self):
        self.check(frames([4]) + frames([5]), [4])
        self.check(frames([4, 5]) + frames([6, 7]), [4, 5])
        self.check(frames([4]) + frames([6, 7])[3:], [4, 7])
        self.check(frames([4]) + frames([4]), [4])

    def test_a_negative_entry(self):
        for entry in (-1, -2, -60, -HUGE, -10 * HUGE):
            self.check([0, entry, -1 - entry], [])
            self.check([0, 4, -5, 1, entry, -1 - entry], [4])
            self.check([0, entry, -1 - entry, 1, 4, -5], [])
        self.check([0, 0, -1], [0])

    def test_a_wrong_third_cell(self):
        for wrong in (5, -4, -6, 4, 0, HUGE):
            self.check([0, 4, wrong], [])
            self.check([0, 4, -5, 1, 4, wrong, 2, 4, -5], [4])
        self.check([0, 4, -4], [])

    def test_cells_behind_the_frames(self):
        for behind in ([0], [1], [1, 7], [-1, -1, -1], [2, 7, -8], [1, 7, -7], [0, 4, -5], [0, 0, 0, 0]):
            self.check([0, 4, -5] + behind, [4])
        # What looks like a frame behind a broken one is not read.
        self.check([0, 4, -5, 9, 1, 7, -8], [4])
        self.check([9, 0, 4, -5], [])

    def test_entries_are_not_those_of_a_cluster(self):
        self.check([0, 99, -100, 1, 99, -100], [99, 99])

    def test_cells_of_31_digits(self):
        most = 10 ** 31 - 1
        self.check([0, most - 1, -most], [most - 1])
        self.check([0, most, -most], [])
        self.check([0, most - 1, -most, 1, most - 1, most], [most - 1])
        self.check([most, most, most], [])
        self.check([-most, -most, -most], [])

    def test_every_short_disk(self):
        for many in range(7):
            for cells in itertools.product((-2, -1, 0, 1), repeat=many):
                cells = list(cells)
                expected = naive_scan(cells)
                self.assertEqual(repr(scan(cells)), repr((expected, 3 * len(expected))))
                self.assertEqual(mend(cells), cells[:3 * len(expected)])

    def test_broken_disks(self):
        for chance in chances(300, "disks"):
            cells = frames([chance.randint(0, 9) for _ in range(chance.randint(0, 8))])
            for _ in range(chance.randint(0, 2)):
                if cells:
                    cells[chance.randrange(len(cells))] = chance.randint(-9, 9)
            cells = cells[:chance.randint(0, len(cells))]
            self.check(cells, naive_scan(cells))


if __name__ == "__main__":
    unittest.main()
