"""Cells (x, y), and the boxes, stretches and blocks that have them."""


def cells_of(box):
    cells = []
    for y in range(box[1], box[1] + box[3]):
        cells.extend([(x, y) for x in range(box[0], box[0] + box[2])])
    return cells


def frame_of_cells(cells):
    if len(cells) == 0:
        return None
    left = min([x for x, y in cells])
    top = min([y for x, y in cells])
    right = max([x for x, y in cells])
    bottom = max([y for x, y in cells])
    return (left, top, right - left + 1, bottom - top + 1)


def row_by_row(cells):
    # With y ahead of x, the order of tuples is the order of cells.
    turned = sorted(set([(y, x) for x, y in cells]))
    return [(x, y) for y, x in turned]


def is_next(stretch, cell):
    return cell == (stretch[0] + stretch[2], stretch[1])


def stretches_of(cells):
    stretches = []
    for cell in row_by_row(cells):
        if len(stretches) > 0 and is_next(stretches[-1], cell):
            last = stretches[-1]
            stretches[-1] = (last[0], last[1], last[2] + 1)
        else:
            stretches.append((cell[0], cell[1], 1))
    return stretches


def blocks_of(cells):
    # A block stands where its uppermost stretch came, so they are sorted already.
    blocks = []
    latest = {}
    for x, y, many in stretches_of(cells):
        place = latest.get((x, many))
        if place is not None and blocks[place][1] + blocks[place][3] == y:
            block = blocks[place]
            blocks[place] = (x, block[1], many, block[3] + 1)
        else:
            latest[(x, many)] = len(blocks)
            blocks.append((x, y, many, 1))
    return blocks
