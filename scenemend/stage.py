"""A stage: a scene on a floor whose picture and own sheets are kept, and mended by each deed."""

from scenemend.boxes import boxes_parted
from scenemend.cells import cells_of
from scenemend.changed import changed_blocks, picture_copied
from scenemend.deeds import deed_done, row_meant, touched_by
from scenemend.drawing import picture_from
from scenemend.errors import NoName
from scenemend.held import held_of
from scenemend.making import content_laid, part_made, sheet_placed
from scenemend.places import is_seen, places_by
from scenemend.rows import row_name, row_shown
from scenemend.scenes import holders_of, kid_rows, row_of, vet
from scenemend.spots import shade_on, spot_laid

# These make the part's own sheet anew, all others only those of its holders.
OWN_MAKERS = ("turn", "size", "change", "put")


def kids_kept(rows, sheets, name):
    return [(row, sheets[row_name(row)]) for row in kid_rows(rows, name)]


def sheets_made(rows):
    sheets = {}
    # From the last row on: what a holder holds has its rows behind it.
    for row in reversed(rows):
        sheets[row_name(row)] = part_made(row, kids_kept(rows, sheets, row_name(row)))
    return sheets


def sheets_remade(rows, kept, made):
    # In the order of made: a holder's sheet is made of those that it holds, so these come first.
    sheets = {}
    for row in rows:
        if row_name(row) in kept:
            sheets[row_name(row)] = kept[row_name(row)]
    for name in made:
        sheets[name] = part_made(row_of(rows, name), kids_kept(rows, sheets, name))
    return sheets


def names_made(ahead, behind, deed):
    name = row_name(row_meant(ahead, deed))
    # A part that is put has its holders behind the deed alone, one that is taken ahead of it alone.
    holders = holders_of(behind if deed[0] == "put" else ahead, name)
    return [name] + holders if deed[0] in OWN_MAKERS else holders


def places_kept(rows, floor, name, sheets):
    return places_by(rows, floor, name, sheets[name]) if is_seen(rows, name) else []


def floor_layers(rows, sheets):
    return [held_of(sheet_placed(row, sheet)) for row, sheet in kids_kept(rows, sheets, "") if row_shown(row)]


def shade_through(layers, cell, ground):
    spot = None
    for held in layers:
        spot = spot_laid(held.get(cell), spot)
    return shade_on(spot, ground)


def picture_mended(picture, boxes, layers, ground):
    mended = picture_copied(picture)
    for box in boxes:
        for cell in cells_of(box):
            mended[cell[1]][cell[0]] = shade_through(layers, cell, ground)
    return mended


class Stage:
    # Kept lists and dicts are never changed in place: a deed puts new ones in their stead,
    # so that what stood at some time can be kept as it was.

    def __init__(self, rows, floor):
        vet(rows)
        self.kept_floor = floor
        self.kept_rows = list(rows)
        self.kept_sheets = sheets_made(rows)
        content = content_laid(kids_kept(rows, self.kept_sheets, ""))
        self.kept_picture = picture_from(content, floor)

    def rows(self):
        return list(self.kept_rows)

    def floor(self):
        return self.kept_floor

    def picture(self):
        return picture_copied(self.kept_picture)

    def sheet(self, name):
        if name not in self.kept_sheets:
            raise NoName("there is no part of that name")
        return list(self.kept_sheets[name])

    def standing(self):
        return (self.kept_rows, self.kept_sheets, self.kept_picture)

    def stand(self, standing):
        self.kept_rows = standing[0]
        self.kept_sheets = standing[1]
        self.kept_picture = standing[2]

    def do(self, deed):
        ahead = self.kept_rows
        behind = deed_done(ahead, deed)
        made = names_made(ahead, behind, deed)
        sheets = sheets_remade(behind, self.kept_sheets, made)
        touched = touched_by(ahead, deed)
        places_ahead = places_kept(ahead, self.kept_floor, touched, self.kept_sheets)
        places_behind = places_kept(behind, self.kept_floor, touched, sheets)
        places = boxes_parted(places_ahead + places_behind)
        layers = floor_layers(behind, sheets)
        picture = picture_mended(self.kept_picture, places, layers, self.kept_floor[2])
        blocks = changed_blocks(self.kept_picture, picture)
        self.stand((behind, sheets, picture))
        return (places, blocks, made)
