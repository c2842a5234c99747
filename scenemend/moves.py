"""Ways in which cells go: turned, turned back, and the shifts of tiles."""


def cell_flipped(cell):
    return (-cell[0], cell[1])


def cell_quartered(cell, quarters):
    gone = cell
    # Four quarters are none, so a very great number of them takes no longer.
    for quarter in range(quarters % 4):
        gone = (-gone[1], gone[0])
    return gone


def cell_turned(cell, quarters, flipped):
    return cell_quartered(cell_flipped(cell) if flipped else cell, quarters)


def cell_turned_back(cell, quarters, flipped):
    # What was done last is taken back first.
    back = cell_quartered(cell, -quarters)
    return cell_flipped(back) if flipped else back


def laying_shifts(nx, ny, stepx, stepy):
    shifts = []
    for j in range(ny):
        shifts.extend([(i * stepx, j * stepy) for i in range(nx)])
    return shifts
