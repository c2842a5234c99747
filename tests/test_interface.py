"""The names and arguments of the interface, as the document lists them."""

import importlib
import inspect
import unittest

FUNCTIONS = {
    "fractions": "fraction(top, bottom) plus(one, other) minus(one, other) times(one, other) less(one, other) is_share(thing)",
    "cells": "cells_of(box) frame_of_cells(cells) stretches_of(cells) blocks_of(cells)",
    "boxes": "box_meet(one, other) box_less(one, other) frame_of_boxes(boxes) boxes_parted(boxes)",
    "spots": "spot_over(one, other)",
    "sheets": (
        "laid_over(upper, lower) sheet_shifted(sheet, dx, dy) sheet_cut(sheet, box) sheet_shared(sheet, share) "
        "sheet_masked(sheet, stencil) sheet_turned(sheet, quarters, flipped) sheet_frame(sheet)"
    ),
    "plain": "plain_spot(shade, share) plate_sheet(w, h, shade, share) stencil_sheet(rows, shade, share)",
    "bands": "band_cells(dx, dy) band_sheet(dx, dy, shade, share)",
    "words": "sign_cells(sign) word_sheet(text, shade, share)",
    "rows": "is_row(thing)",
    "scenes": "vet(rows) row_of(rows, name) kids_of(rows, name) holders_of(rows, name) parts_in(rows, name)",
    "drawing": "own_sheet(rows, name) content_of(rows, name) picture_of(rows, floor)",
    "asking": "spot_at(rows, name, x, y) shade_at(rows, floor, x, y)",
    "looking": "parts_under(rows, x, y) meeting(rows, one, other)",
    "places": "places_of(rows, floor, name)",
    "changed": "changed_blocks(one, other)",
    "deeds": "deed_done(rows, deed) touched_by(rows, deed)",
    "copies": "copies_of(rows, floor, name, x, y)",
    "plans": "plan_of(rows, floor, name, x, y) plan_done(plan, old, behind)",
    "frames": "frame_between(one, other) frame_played(frame, picture) frame_back(frame) frames_joined(one, other)",
    "notes": "scene_shown(rows) scene_read(text) picture_shown(picture)",
}
CLASSES = {
    "stage": ("Stage(rows, floor)", "rows() floor() picture() sheet(name) do(deed)"),
    "film": ("Film(picture)", "add(picture) count() at(number) frames()"),
    "book": ("Book(rows, floor)", "do(deed) undo() redo() rows() picture() sheet(name) film()"),
    "desk": ("Desk()", "say(row)"),
}


def told_calls(text):
    """The name and the arguments of each call in a text."""
    for call in text.split(")")[:-1]:
        name, arguments = call.strip().split("(")
        yield name, [argument for argument in arguments.split(", ") if argument]


def arguments_of(thing):
    return [name for name in inspect.signature(thing).parameters if name != "self"]


class InterfaceTest(unittest.TestCase):
    def test_functions(self):
        for module, text in FUNCTIONS.items():
            there = importlib.import_module("scenemend." + module)
            for name, arguments in told_calls(text):
                with self.subTest(module=module, name=name):
                    self.assertEqual(arguments_of(getattr(there, name)), arguments)
                    self.assertEqual(getattr(there, name).__module__, there.__name__)

    def test_classes(self):
        for module, (head, text) in CLASSES.items():
            there = importlib.import_module("scenemend." + module)
            for name, arguments in told_calls(head):
                made = getattr(there, name)
                self.assertEqual(arguments_of(made), arguments)
                for method, told in told_calls(text):
                    with self.subTest(name=name, method=method):
                        self.assertEqual(arguments_of(getattr(made, method)), told)


if __name__ == "__main__":
    unittest.main()
