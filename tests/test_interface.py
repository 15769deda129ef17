"""The interface: what stands where, with which arguments."""

import importlib
import inspect
import unittest

# For each module its functions, with their arguments as `inspect` writes them.
FUNCTIONS = {
    "tree.parts": {
        "is_name": "(word)", "is_text": "(word)", "walk": "(root)", "item_at": "(root, path)",
        "lineage": "(root, path)", "within_bounds": "(root)",
    },
    "tree.edits": {
        "apply_edit": "(root, edit)", "inverse_edit": "(root, edit)", "independent": "(first, second)",
    },
    "tree.notation": {"write_document": "(root)", "read_document": "(text)"},
    "sheets.properties": {"initial_values": "()", "is_value": "(name, value)", "computed": "(parent, declared)"},
    "sheets.selectors": {"matches": "(selector, path)", "weight_of": "(selector)"},
    "sheets.rules": {"write_rule": "(rule)", "read_rule": "(line)"},
    "sheets.sheet": {"joined": "(*sheets)"},
    "sheets.compare": {
        "first_difference": "(one, other)", "parting_document": "(one, other)", "needless_rules": "(sheet)",
        "affected_parts": "(root, one, other)",
    },
    "faces.strokes": {"unit_steps": "(stroke)", "corners": "(outline)"},
    "faces.ink": {"ink_of": "(outlines)"},
    "faces.rings": {"outlines_of": "(ink)"},
    "words.flow": {"flow": "(root, sheet, *, lost='?')"},
    "words.resolve": {
        "resolve": "(runs, shown)", "measures_of": "(resolved, faces)", "plain_words": "(resolved)",
    },
    "words.shape": {"shape": "(resolved, measures)", "bare": "(pieces)"},
    "lines.prices": {
        "line_glue": "(row, start, end)", "line_price": "(row, start, end, measure)",
        "box_places": "(row, start, end, measure)", "gap_spans": "(row, start, end, measure)",
        "pair_price": "(row, start, middle, end, measure)",
    },
    "lines.breaking": {"break_lines": "(row, measure)"},
    "lines.forward": {"break_forward": "(row, measure)"},
    "lines.certificate": {"line_certificate": "(row, measure)"},
    "lines.blocked": {"blocked_stretch": "(row, measure)"},
    "pages.galley": {"make_galley": "(paragraphs)"},
    "pages.options": {"page_options": "(galley, frame, state)"},
    "pages.breaking": {"break_pages": "(galley, frame)"},
    "pages.forward": {"pages_forward": "(galley, frame)", "fewest_pages": "(galley, frame)"},
    "pages.certificate": {"page_certificate": "(galley, frame)"},
    "refs.assignments": {
        "assignments": "(count, classes)", "settle": "(setter, count, classes)",
        "all_consistent": "(setter, count, classes)",
    },
    "whole.trial": {"try_assignment": "(flowed, faces, settings, assignment)"},
    "whole.setting": {
        "set_document": "(root, sheet, faces, settings, *, forward=False)",
        "cells_of": "(root, sheet, faces, settings)", "label_pages": "(root, sheet, faces, settings)",
    },
    "printing.places": {
        "print_line": "(pieces, start, end, measure, *, left=0, top=0)",
        "print_block": "(pieces, ends, measure, lead, *, top=0)",
    },
    "printing.reading": {"read_line": "(letters, faces)", "read_back": "(pages, faces)"},
    "printing.changes": {"changed_pages": "(before, after)"},
    "desk.edits": {"independent_edits": "(first, second)"},
    "desk.notation": {"write_edit": "(edit)", "read_edit": "(line)"},
    "desk.script": {"run_script": "(desk, script)"},
}

# For each class its module, its arguments, and what stands in it.
CLASSES = {
    "Weight": ("sheets.weights", "(marks, kinds)", "__lt__ __eq__ __add__"),
    "Sheet": (
        "sheets.sheet", "(rules)",
        "LIMIT read text __len__ __getitem__ __iter__ __contains__ __add__ winner declared values_of origin with_rule "
        "without_rule",
    ),
    "Ink": (
        "faces.ink", "(cells)",
        "cells spans left right moved __or__ __and__ __sub__ __xor__ __contains__ __len__ __iter__",
    ),
    "Face": (
        "faces.face", "(letters, *, space=(4, 2, 1), want=1, most=2, kerns=None)",
        "REQUIRED __contains__ __len__ __iter__ space advance ink nearer closest_row changed with_kern data of even",
    ),
    "Ruler": ("faces.ruler", "(face)", "__call__"),
    "Glue": ("lines.glue", "(width, stretch, shrink)", "__add__ __sub__ __mul__ __rmul__ __neg__ parts"),
    "Measure": (
        "lines.measure", "(width, *, indent=0, align='both', hyphen=50, twin=100, river=0, loose=2)", "key of",
    ),
    "Frame": ("pages.frame", "(height, *, columns=1, rule=4, under=4, wait=1, late=50, uneven=1)", "key of"),
    "Table": ("refs.assignments", "(verdicts)", "__call__"),
    "Settings": ("whole.settings", "(**given)", "value data changed classes measure frame"),
    "Listing": ("printing.listing", "(pages)", "rows"),
    "NumberedListing": ("printing.listing", "(pages)", "rows"),
    "HeadedListing": ("printing.listing", "(pages)", "rows"),
    "Desk": (
        "desk.desk", "(root, sheet, faces, settings)",
        "do undo redo would inverse state kept history result recomputed steps undone",
    ),
}


class InterfaceTest(unittest.TestCase):
    def test_functions(self):
        for name, functions in FUNCTIONS.items():
            module = importlib.import_module("stylepages." + name)
            for word, arguments in functions.items():
                function = getattr(module, word)
                self.assertEqual(function.__module__, module.__name__, word)
                self.assertEqual(str(inspect.signature(function)), arguments, word)

    def test_classes(self):
        for word, (name, arguments, members) in CLASSES.items():
            module = importlib.import_module("stylepages." + name)
            found = getattr(module, word)
            self.assertEqual(found.__module__, module.__name__, word)
            self.assertEqual(str(inspect.signature(found)), arguments, word)
            for member in members.split():
                self.assertIn(member, found.__dict__, word)

    def test_static_methods_and_properties(self):
        for word, names in (("Face", "of even"), ("Measure", "of"), ("Frame", "of")):
            found = getattr(importlib.import_module("stylepages." + CLASSES[word][0]), word)
            for name in names.split():
                self.assertIsInstance(found.__dict__[name], staticmethod)
        face = importlib.import_module("stylepages.faces.face").Face
        self.assertIsInstance(face.__dict__["space"], property)
        desk = importlib.import_module("stylepages.desk.desk").Desk
        for name in ("result", "recomputed", "steps", "undone"):
            self.assertIsInstance(desk.__dict__[name], property)
        ruler = importlib.import_module("stylepages.faces.ruler").Ruler
        self.assertEqual(str(inspect.signature(ruler.__call__)), "(self, word, size=1)")

    def test_methods(self):
        settings = importlib.import_module("stylepages.whole.settings").Settings
        desk = importlib.import_module("stylepages.desk.desk").Desk
        for method, arguments in (
            (settings.value, "(self, name)"), (settings.changed, "(self, **given)"),
            (settings.measure, "(self, style, *, full=False)"), (desk.do, "(self, *edits)"),
            (desk.would, "(self, *edits)"), (desk.inverse, "(self, edit)"),
        ):
            self.assertEqual(str(inspect.signature(method)), arguments)

    def test_the_listings_are_one_family(self):
        listing = importlib.import_module("stylepages.printing.listing")
        self.assertEqual(listing.NumberedListing.__bases__, (listing.Listing,))
        self.assertEqual(listing.HeadedListing.__bases__, (listing.NumberedListing,))


if __name__ == "__main__":
    unittest.main()
