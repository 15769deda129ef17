"""A plain reading of points 64 to 76, over what the tests of the lines and the pages have checked, and drawn input."""

from stylepages.errors import Blocked, NoPages
from stylepages.faces.face import Face
from stylepages.lines.breaking import break_lines
from stylepages.lines.measure import Measure
from stylepages.pages.breaking import break_pages
from stylepages.pages.frame import Frame
from stylepages.sheets.sheet import Sheet
from stylepages.tree.parts import within_bounds
from stylepages.whole.settings import Settings
from stylepages.words.shape import bare
from tests.plain_faces import slanted_letters
from tests.plain_lines import plain_hyphen_end, plain_places
from tests.plain_words import plain_boxes, plain_flow, plain_measures, plain_pieces, signs_of
from tests.support import TABLE, plain_values, plain_winner
from tests.test_galley import plain_galley


class Fault(Exception):
    """The verdict that ends a trial."""


def plain_resolve(runs, shown):
    return tuple(("shown", run[1], shown[run[1]]) + run[2:] if run[0] == "ref" else run for run in runs)


def plain_line(pieces, start, end, measure, left, top):
    """Point 70."""
    row = bare(pieces)
    letters = []
    for place, box in zip(plain_places(row, start, end, measure), pieces[0][start:end]):
        letters += [(left + place + o, char, size, face) for char, o, size, face in box[1]]
        right = place + box[0]
    if plain_hyphen_end(row, end):
        char, o, size, face = pieces[1][end - 1][3]
        letters.append((left + right + o, char, size, face))
    return (top, tuple(letters))


class PlainSetting:
    """The setting of one flow: its trials, its result, its label pages and the cells that it needs."""

    def __init__(self, flowed, faces, settings):
        self.flowed, self.faces = flowed, faces
        self.of = dict(settings.data())
        self.cells = []

    def need(self, cell):
        if cell not in self.cells:
            self.cells.append(cell)

    def pieces(self, runs, shown):
        resolved = plain_resolve(runs, shown)
        words = plain_boxes(resolved)
        for place in [place for boxes in words for box in boxes for place in box]:
            char, _, face, _ = signs_of(resolved)[place]
            if char not in self.faces[face]:
                raise Fault(("letter", char))
        self.need(("pieces", (resolved, plain_measures(resolved, self.faces))))
        return plain_pieces(resolved, self.faces)

    def key(self, style, full):
        columns = self.of["columns"] if full else 1
        width = columns * self.of["width"] + (columns - 1) * self.of["gutter"]
        return (width, style[1], style[0]) + tuple(self.of[name] for name in ("hyphen", "twin", "river", "loose"))

    def blocks(self, sort, blocks, shown):
        """Return (pieces, ends, measure, style) of each paragraph, note or float."""
        done = []
        for number, (runs, style) in enumerate(blocks):
            pieces = self.pieces(runs, shown)
            key = self.key(style, sort != "paragraph")
            self.need(("lines", (bare(pieces), key)))
            try:
                ends = break_lines(bare(pieces), Measure.of(key))[1]
            except Blocked as error:
                raise Fault(("line", sort, number, error.start, error.end)) from None
            done.append((pieces, ends, Measure.of(key), style))
        return done

    def attempt(self, assignment):
        """Point 65: return the verdict, and set all that belongs to the layout."""
        try:
            return self.attempt_all(assignment)
        except Fault as fault:
            return fault.args[0]

    def attempt_all(self, assignment):
        shown = tuple(self.of["far"] + "0" * form if form else self.of["near"] for form in assignment)
        self.paragraphs = self.blocks("paragraph", self.flowed[0], shown)
        self.notes = self.blocks("note", self.flowed[1], shown)
        self.floats = self.blocks("float", self.flowed[2], shown)
        self.lines, rows = [], []
        for number, (pieces, ends, _, style) in enumerate(self.paragraphs):
            lines = []
            for start, end in zip((0,) + ends, ends):
                marks = [mark for box in pieces[0][start:end] for mark in box[2]]
                notes = tuple(self.height(self.notes[k]) for sort, k in marks if sort == "note")
                floats = tuple(self.height(self.floats[k]) for sort, k in marks if sort == "float")
                lines.append((notes, floats))
                self.lines.append((number, start, end, marks))
            rows.append((tuple(lines),) + style[2:])
        self.galley = plain_galley(rows)
        frame = tuple(self.of[name] for name in ("height", "columns", "rule", "under", "wait", "late", "uneven"))
        self.need(("pages", (self.galley, frame)))
        try:
            self.pages = break_pages(self.galley, Frame.of(frame))[1]
        except NoPages as error:
            raise Fault(("page", error.lines)) from None
        if len(self.pages) > self.of["most"]:
            raise Fault(("most", len(self.pages)))
        self.page_of = {}
        for at, page in enumerate(self.pages):
            for line in range(page[0], page[1]):
                for mark in self.lines[line][3]:
                    self.page_of[mark] = self.of["first"] + at
        forms = []
        for number, label in enumerate(self.flowed[4]):
            far = self.page_of[("label", label)]
            forms.append(0 if self.page_of[("ref", number)] == far else len(str(far)))
        return ("forms", tuple(forms))

    def height(self, block):
        return len(block[1]) * block[3][2]

    def block_lines(self, block, top):
        pieces, ends, measure, style = block
        rows = []
        for start, end in zip((0,) + ends, ends):
            rows.append(plain_line(pieces, start, end, measure, 0, top))
            top += style[2]
        return tuple(rows)

    def column(self, lines, left, top):
        rows = []
        for at, line in enumerate(lines):
            number, start, end, _ = self.lines[line]
            pieces, _, measure, _ = self.paragraphs[number]
            if at:
                top += self.galley[line - 1][0] + self.galley[line][1]
            rows.append(plain_line(pieces, start, end, measure, left, top))
        return tuple(rows)

    def printed(self, number, page):
        line, end, first_float, floats_end, split = page
        floats, top = [], 0
        for block in self.floats[first_float:floats_end]:
            floats.append(self.block_lines(block, top))
            top += self.height(block)
        top += self.of["under"] if floats else 0
        columns = [self.column(range(line, split), 0, top)]
        if self.of["columns"] == 2:
            columns.append(self.column(range(split, end), self.of["width"] + self.of["gutter"], top))
        kept = [self.notes[k] for at in range(line, end) for sort, k in self.lines[at][3] if sort == "note"]
        top, notes = self.of["height"] - sum(self.height(block) for block in kept), []
        for block in kept:
            notes.append(self.block_lines(block, top))
            top += self.height(block)
        return (number, tuple(floats), tuple(columns), tuple(notes))

    def set(self, assignments):
        """Points 67 and 76: return (result, label pages)."""
        tried = []
        for assignment in assignments:
            verdict = self.attempt(assignment)
            if verdict == ("forms", assignment):
                break
            tried.append((assignment, verdict))
        else:
            return ("unset", tuple(tried)), None
        shown = tuple(
            self.of["far"] + str(self.page_of[("label", label)]) if form else self.of["near"]
            for form, label in zip(assignment, self.flowed[4])
        )
        for at, (runs, _) in enumerate(self.flowed[0]):
            if "ref" in [run[0] for run in runs]:
                self.paragraphs[at] = (self.pieces(runs, shown),) + self.paragraphs[at][1:]
        pages = tuple(self.printed(self.of["first"] + at, page) for at, page in enumerate(self.pages))
        labels = [(name, self.page_of[("label", k)]) for k, name in enumerate(self.flowed[3])]
        return ("pages", assignment, pages), labels


def plain_value_cells(root, rules):
    """Points 75 and 76: the values cells, each once."""
    found = []

    def visit(part, path, parent):
        path = path + (part[:2],)
        declared = []
        for name in TABLE:
            won = plain_winner(rules, path, name)
            if won is not None:
                declared.append((name, rules[won[0]][1][won[1]][1]))
        cell = ("values", (parent, tuple(declared)))
        if cell not in found:
            found.append(cell)
        values = plain_values(rules, path)
        if len(path) > 1 and values["place"] == "none":
            return
        for item in part[2]:
            if isinstance(item, tuple) and len(item) == 3:
                visit(item, path, tuple(values[name] for name in TABLE))

    visit(root, (), tuple(row[4] for row in TABLE.values()))
    return found


def plain_assignments(count, classes):
    if count == 0:
        return [()]
    return [(form,) + rest for form in (0,) + classes for rest in plain_assignments(count - 1, classes)]


def plain_classes(of):
    last = of["first"] + of["most"] - 1
    return tuple(range(len(str(of["first"])), len(str(last)) + 1))


def plain_set(root, rules, faces, settings):
    """Return (result, label pages, cells)."""
    of = dict(settings.data())
    flowed = plain_flow(root, rules, of["lost"])
    setting = PlainSetting(flowed, faces, settings)
    setting.cells = plain_value_cells(root, rules)
    result, labels = setting.set(plain_assignments(len(flowed[4]), plain_classes(of)))
    return result, labels, setting.cells


# Drawn input.

RULES = (
    "p { place block }", "p { place block; indent 3; below 4 }", "n { place note; lead 8 }", "f { place float; lead 9 }",
    "f { place float; align left }", "x { place none }", "b { face bold }", "s { size 3/2 }", "p.m { align left }",
    "p { keep yes }", "doc { lead 10; least 2 }", "doc { size 1; lead 7 }", "f b { size 1! }", "* { above 2 }",
    "p > b { place line; size 3 }", "p.m { lead 6/1; above 3/2 }", "n.m { lead 5 }",
)
ALPHABETS = {"slanted": "VAixol.'", "even": "abcdefgh", "lacking": "VAixol.z"}


def faces_of(sort):
    if sort == "even":
        return {"plain": Face.even(4), "bold": Face.even(5)}
    letters = slanted_letters()
    bold = {char: (advance + 1 if char.isalpha() else advance, outlines) for char, (advance, outlines) in letters.items()}
    return {
        "plain": Face(letters, space=(4, 3, 2), kerns={"xo": 2, "o-": 1, "ox": 3}),
        "bold": Face(bold, space=(5, 4, 1), want=0, most=4),
    }


def random_words(source, alphabet, many):
    words = []
    for _ in range(many):
        word = "".join(source.choice(alphabet) for _ in range(source.randint(1, 5)))
        if source.random() < 0.3 and len(word) > 1:
            at = source.randint(0, len(word))
            word = word[:at] + "|" + word[at:]
        words.append(word)
    text = source.choice([" ", " ", "", "  "]).join(words) if source.random() < 0.2 else " ".join(words)
    return (source.choice(["", " "]) + text + source.choice(["", " "]))[:60] or " "


def random_items(source, alphabet, depth):
    items = []
    for _ in range(source.randint(1, 4)):
        kind = source.choice(["text"] * 7 + ["label", "ref", "ref", "part", "part"])
        if kind == "text":
            items.append(random_words(source, alphabet, source.randint(1, 6)))
        elif kind == "label":
            items.append(("#", source.choice("uvw")))
        elif kind == "ref":
            items.append(("@", source.choice("uvw")))
        elif depth > 0:
            items.append(random_part(source, alphabet, source.choice("nfbsxp"), depth - 1))
    return items


def random_part(source, alphabet, kind, depth):
    return (kind, source.choice([(), (), ("m",)]), tuple(random_items(source, alphabet, depth)))


def count_signs(root, sign):
    return repr(root).count("('" + sign + "'")


def random_document(source, alphabet, paragraphs):
    while True:
        items = [random_part(source, alphabet, "p", 2) for _ in range(paragraphs)]
        items += source.sample([("#", "u"), ("#", "v"), ("@", "u"), ("@", "v")], source.randint(0, 4))
        source.shuffle(items)
        root = ("doc", (), tuple(items))
        if within_bounds(root):
            return root


def random_settings(source, alphabet):
    given = {
        "width": source.randint(50, 130), "height": source.randint(18, 70), "columns": source.randint(1, 2),
        "gutter": source.choice([0, 7, 20]), "first": source.choice([1, 1, 8, 9, 97, 998]),
        "most": source.choice([2, 9, 20]), "near": source.choice(["x", "o x", "l|o", "VA"]),
        "far": source.choice(["x", "o ", "l|", "A|x "]), "lost": source.choice(["x", "o|x"]),
        "river": source.choice([0, 0, 0, 1, 2]), "loose": source.choice([2, 9, 9, 9]), "rule": source.choice([0, 4]),
        "under": source.choice([0, 4]), "wait": source.randint(0, 3), "late": source.choice([0, 50]),
        "uneven": source.choice([0, 1, 9]), "hyphen": source.choice([0, 50]), "twin": source.choice([0, 100]),
    }
    if alphabet == ALPHABETS["even"]:
        given.update(near=source.choice(["here", "a b"]), far=source.choice(["p", "p. ", "a|b"]), lost="?")
    names = source.sample(sorted(given), source.randint(5, len(given)))
    # Without these, hardly a document would have several pages.
    names += ["near", "far", "lost", "width", "height", "loose"]
    return Settings(**{name: given[name] for name in given if name in names})


def random_sheet(source):
    rules = ["p { place block }", "n { place note }", "f { place float }"]
    if source.random() < 0.8:
        rules.append("doc { size 1; lead 8; align " + source.choice(["both", "both", "left"]) + " }")
    rules += source.sample(RULES, source.randint(0, 5))
    return Sheet.read("\n".join(rules))


def random_setting(source):
    """Return a document, a sheet, faces and settings."""
    sort = source.choice(["slanted", "slanted", "slanted", "even", "even", "lacking"])
    alphabet = ALPHABETS[sort]
    root = random_document(source, alphabet, source.randint(0, 5))
    return root, random_sheet(source), faces_of(sort), random_settings(source, alphabet)
