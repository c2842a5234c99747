"""The font: which of seven strokes each sign has, and which cells of its field a stroke has."""

STROKES = {
    "t": ((0, 0), (1, 0), (2, 0)),
    "m": ((0, 2), (1, 2), (2, 2)),
    "o": ((0, 4), (1, 4), (2, 4)),
    "l": ((0, 0), (0, 1), (0, 2)),
    "r": ((2, 0), (2, 1), (2, 2)),
    "k": ((0, 2), (0, 3), (0, 4)),
    "s": ((2, 2), (2, 3), (2, 4)),
}

SIGNS = {
    "0": "tolrks",
    "1": "rs",
    "2": "tmork",
    "3": "tmors",
    "4": "mlrs",
    "5": "tmols",
    "6": "tmolks",
    "7": "trs",
    "8": "tmolrks",
    "9": "tmolrs",
    "a": "tmlrks",
    "b": "molks",
    "c": "tolk",
    "d": "morks",
    "e": "tmolk",
    "f": "tmlk",
    "-": "m",
    "_": "",
}


def is_sign(sign):
    return sign in SIGNS


def stroke_cells(sign):
    # Strokes of one sign meet, so some cells may come twice.
    cells = []
    for stroke in SIGNS[sign]:
        cells.extend(list(STROKES[stroke]))
    return cells
