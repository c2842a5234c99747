import unittest

from scenemend.cells import blocks_of, cells_of, frame_of_cells, stretches_of


def row_order(cell):
    return (cell[1], cell[0])


def shuffled(cells):
    # Some order that is neither that of rows nor that of columns, each third cell twice.
    return cells[1::2] + cells[::3] + cells[::-2] + cells[0::2]


def subsets(cells):
    for number in range(2 ** len(cells)):
        yield [cell for place, cell in enumerate(cells) if number >> place & 1]


def longest_stretches(cells):
    told = []
    for x, y in sorted(set(cells), key=row_order):
        if (x - 1, y) not in cells:
            many = 1
            while (x + many, y) in cells:
                many += 1
            told.append((x, y, many))
    return told


def blocks_by_stretches(stretches):
    told = []
    for x, y, many in stretches:
        if (x, y - 1, many) not in stretches:
            high = 1
            while (x, y + high, many) in stretches:
                high += 1
            told.append((x, y, many, high))
    return sorted(told, key=row_order)


class CellsOfTest(unittest.TestCase):
    def test_row_by_row(self):
        self.assertEqual(
            cells_of((-1, 2, 3, 2)),
            [(-1, 2), (0, 2), (1, 2), (-1, 3), (0, 3), (1, 3)],
        )

    def test_one_cell_one_row_one_column(self):
        self.assertEqual(cells_of((5, -7, 1, 1)), [(5, -7)])
        self.assertEqual(cells_of((5, -7, 3, 1)), [(5, -7), (6, -7), (7, -7)])
        self.assertEqual(cells_of((5, -7, 1, 3)), [(5, -7), (5, -6), (5, -5)])

    def test_at_the_bounds(self):
        self.assertEqual(cells_of((-1000, 999, 2, 2)), [(-1000, 999), (-999, 999), (-1000, 1000), (-999, 1000)])

    def test_told_list_is_the_askers_own(self):
        told = cells_of((0, 0, 2, 1))
        told.append((9, 9))
        told[0] = (8, 8)
        self.assertEqual(cells_of((0, 0, 2, 1)), [(0, 0), (1, 0)])


class FrameOfCellsTest(unittest.TestCase):
    def test_of_none(self):
        self.assertIsNone(frame_of_cells([]))

    def test_of_one(self):
        for cell in ((0, 0), (-3, 4), (3, -4), (-1000, 1000)):
            self.assertEqual(frame_of_cells([cell]), (cell[0], cell[1], 1, 1))
            self.assertEqual(frame_of_cells([cell, cell]), (cell[0], cell[1], 1, 1))

    def test_of_many_in_any_order(self):
        self.assertEqual(frame_of_cells([(2, 5), (-1, 7), (4, 6), (2, 5)]), (-1, 5, 6, 3))
        self.assertEqual(frame_of_cells([(4, -6), (-1, -2)]), (-1, -6, 6, 5))
        self.assertEqual(frame_of_cells([(-4, -6), (-1, -6), (-2, -6)]), (-4, -6, 4, 1))

    def test_of_a_boxs_cells(self):
        for box in ((0, 0, 1, 1), (-3, 2, 4, 5), (7, -9, 6, 1), (-7, -9, 1, 6)):
            self.assertEqual(frame_of_cells(shuffled(cells_of(box))), box)

    def test_list_handed_in_stays(self):
        cells = [(2, 5), (-1, 7), (2, 5)]
        frame_of_cells(cells)
        self.assertEqual(cells, [(2, 5), (-1, 7), (2, 5)])


class StretchesOfTest(unittest.TestCase):
    def test_of_none(self):
        self.assertEqual(stretches_of([]), [])

    def test_one_row_with_gaps_in_any_order_some_twice(self):
        cells = [(3, 1), (-1, 1), (0, 1), (5, 1), (3, 1), (4, 1), (-1, 1), (7, 1)]
        self.assertEqual(stretches_of(cells), [(-1, 1, 2), (3, 1, 3), (7, 1, 1)])

    def test_several_rows(self):
        cells = [(0, 2), (1, -1), (2, 0), (0, -1), (1, 2), (3, 0), (0, 0)]
        self.assertEqual(stretches_of(cells), [(0, -1, 2), (0, 0, 1), (2, 0, 2), (0, 2, 2)])

    def test_a_row_does_not_run_on_into_the_next(self):
        self.assertEqual(stretches_of([(0, 0), (1, 0), (2, 1), (3, 1)]), [(0, 0, 2), (2, 1, 2)])

    def test_every_set_of_cells_of_a_small_box(self):
        for cells in subsets(cells_of((-1, -1, 4, 3))):
            self.assertEqual(stretches_of(shuffled(cells)), longest_stretches(cells))

    def test_lists_are_the_askers_own(self):
        cells = [(1, 0), (0, 0), (0, 1), (1, 0)]
        told = stretches_of(cells)
        self.assertEqual(cells, [(1, 0), (0, 0), (0, 1), (1, 0)])
        told.append((9, 9, 9))
        told[0] = (8, 8, 8)
        self.assertEqual(stretches_of(cells), [(0, 0, 2), (0, 1, 1)])


class BlocksOfTest(unittest.TestCase):
    def test_of_none(self):
        self.assertEqual(blocks_of([]), [])

    def test_a_boxs_cells_are_one_block(self):
        for box in ((0, 0, 1, 1), (-3, 2, 4, 5), (7, -9, 6, 1), (-7, -9, 1, 6)):
            self.assertEqual(blocks_of(shuffled(cells_of(box))), [box])

    def test_alike_stretches_with_a_row_between(self):
        self.assertEqual(blocks_of([(0, 2), (1, 0), (0, 0), (1, 2)]), [(0, 0, 2, 1), (0, 2, 2, 1)])

    def test_alike_stretches_with_another_one_between(self):
        cells = [(0, 0), (0, 1), (1, 1), (0, 2)]
        self.assertEqual(blocks_of(cells), [(0, 0, 1, 1), (0, 1, 2, 1), (0, 2, 1, 1)])

    def test_same_x_and_another_many(self):
        cells = [(0, 0), (1, 0), (0, 1), (1, 1), (2, 1)]
        self.assertEqual(blocks_of(cells), [(0, 0, 2, 1), (0, 1, 3, 1)])

    def test_same_many_and_another_x(self):
        self.assertEqual(blocks_of([(0, 0), (1, 0), (1, 1), (2, 1)]), [(0, 0, 2, 1), (1, 1, 2, 1)])

    def test_sorted_by_y_then_x(self):
        cells = [(5, 0), (5, 1), (5, 2), (0, 1), (1, 1), (0, 2), (1, 2), (-4, 2), (9, 0)]
        self.assertEqual(blocks_of(cells), [(5, 0, 1, 3), (9, 0, 1, 1), (0, 1, 2, 2), (-4, 2, 1, 1)])

    def test_two_blocks_of_one_x_and_many(self):
        cells = cells_of((2, -3, 2, 2)) + cells_of((2, 1, 2, 3))
        self.assertEqual(blocks_of(shuffled(cells)), [(2, -3, 2, 2), (2, 1, 2, 3)])

    def test_every_set_of_cells_of_a_small_box(self):
        for cells in subsets(cells_of((-1, -1, 3, 4))):
            told = blocks_of(shuffled(cells))
            self.assertEqual(told, blocks_by_stretches(longest_stretches(cells)))
            covered = [cell for block in told for cell in cells_of(block)]
            self.assertEqual(sorted(covered), sorted(cells))

    def test_lists_are_the_askers_own(self):
        cells = [(1, 0), (0, 0), (0, 1), (1, 0)]
        told = blocks_of(cells)
        self.assertEqual(cells, [(1, 0), (0, 0), (0, 1), (1, 0)])
        told.append((9, 9, 9, 9))
        told[0] = (8, 8, 8, 8)
        self.assertEqual(blocks_of(cells), [(0, 0, 2, 1), (0, 1, 1, 1)])


class KindsTest(unittest.TestCase):
    def test_tuples_of_whole_numbers_in_lists(self):
        cells = [(1, 0), (0, 0), (0, 1)]
        for told in (cells_of((0, 0, 2, 2)), stretches_of(cells), blocks_of(cells)):
            self.assertIs(type(told), list)
            for thing in told:
                self.assertIs(type(thing), tuple)
                self.assertEqual({type(part) for part in thing}, {int})
        self.assertIs(type(frame_of_cells(cells)), tuple)


if __name__ == "__main__":
    unittest.main()
