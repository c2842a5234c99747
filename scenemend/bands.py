"""Bands: leaves with plain spots along a line from the cell (0, 0) to another one."""

from scenemend.plain import plain_sheet


def part_way(k, n, whole):
    # Half a cell added ahead of rounding down: the nearest cell, and just half a cell goes up.
    return (2 * k * whole + n) // (2 * n)


def band_cells(dx, dy):
    n = max(abs(dx), abs(dy))
    if n == 0:
        return [(0, 0)]
    return [(part_way(k, n, dx), part_way(k, n, dy)) for k in range(n + 1)]


def band_sheet(dx, dy, shade, share):
    return plain_sheet(band_cells(dx, dy), shade, share)
