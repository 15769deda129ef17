"""A plain reading of points 36 to 43."""

from tests.support import plain_values


def plain_has_letters(runs):
    return any(run[0] == "ref" or (run[0] == "text" and set(run[1]) - {" ", "|"}) for run in runs)


def plain_join(runs):
    for at in range(len(runs) - 1):
        one, other = runs[at], runs[at + 1]
        if one[0] == other[0] == "text" and one[2:] == other[2:]:
            return plain_join(runs[:at] + [("text", one[1] + other[1]) + one[2:]] + runs[at + 2:])
    return runs


class PlainFlow:
    """Points 36 and 37, with one open paragraph that is changed as the words of the points say."""

    def __init__(self, root, rules, lost):
        self.rules = rules
        self.lost = lost
        self.labels = []
        self.references = []
        self.notes = []
        self.floats = []
        self.closed = []
        self.met = []
        self.meet_labels(root, [(root[0], root[1])])
        self.owner = [(root[0], root[1])]
        self.open = []
        self.walk(root, [(root[0], root[1])])
        self.close()

    def values(self, path):
        return plain_values(self.rules, tuple(path))

    def meet_labels(self, part, path):
        for item in part[2]:
            if isinstance(item, tuple) and item[0] == "#" and len(item) == 2:
                self.met.append(item[1])
            if isinstance(item, tuple) and len(item) == 3:
                below = path + [item[:2]]
                if self.values(below)["place"] in ("line", "block"):
                    self.meet_labels(item, below)

    def close(self):
        values = self.values(self.owner)
        names = ("align", "indent", "lead", "least", "keep", "above", "below")
        self.closed.append((self.open, tuple(values[name] for name in names)))
        self.open = []

    def walk(self, part, path):
        own = self.values(path)
        looks = (own["size"], own["face"])
        for item in part[2]:
            if isinstance(item, str):
                self.open.append(("text", item) + looks)
            elif len(item) == 2 and item[0] == "#":
                self.open.append(("mark", "label", len(self.labels)))
                self.labels.append(item[1])
            elif len(item) == 2 and item[1] in self.met:
                self.open.append(("ref", len(self.references)) + looks)
                self.references.append(self.met.index(item[1]))
            elif len(item) == 2:
                self.open.append(("text", self.lost) + looks)
            else:
                self.part(item, path + [item[:2]])

    def part(self, part, path):
        place = self.values(path)["place"]
        if place == "line":
            self.walk(part, path)
        elif place == "block":
            before = self.owner
            self.close()
            self.owner = path
            self.walk(part, path)
            self.close()
            self.owner = before
        elif place in ("note", "float"):
            runs = plain_join(self.all_texts(part, path))
            if plain_has_letters(runs):
                kept = self.notes if place == "note" else self.floats
                values = self.values(path)
                names = ("align", "indent", "lead", "least", "keep", "above", "below")
                self.open.append(("mark", place, len(kept)))
                kept.append((tuple(runs), tuple(values[name] for name in names)))

    def all_texts(self, part, path):
        own = self.values(path)
        found = []
        for item in part[2]:
            if isinstance(item, str):
                found.append(("text", item, own["size"], own["face"]))
            elif len(item) == 3:
                below = path + [item[:2]]
                if self.values(below)["place"] != "none":
                    found += self.all_texts(item, below)
        return found

    def flow(self):
        kept, waiting = [], []
        for runs, style in self.closed:
            if plain_has_letters(runs):
                kept.append([plain_join(waiting + runs), style])
                waiting = []
            else:
                waiting = waiting + [run for run in runs if run[0] == "mark"]
        if not kept:
            return ((), (), (), (), ())
        kept[-1][0] = kept[-1][0] + waiting
        paragraphs = tuple((tuple(runs), style) for runs, style in kept)
        return (paragraphs, tuple(self.notes), tuple(self.floats), tuple(self.labels), tuple(self.references))


def plain_flow(root, rules, lost="?"):
    return PlainFlow(root, rules, lost).flow()


def signs_of(resolved):
    """Return the characters of resolved runs as (char, size, face, number of the run)."""
    signs = []
    for number, run in enumerate(resolved):
        if run[0] != "mark":
            text, size, face = (run[1], run[2], run[3]) if run[0] == "text" else (run[2], run[3], run[4])
            signs += [(char, size, face, number) for char in text]
    return signs


def split_words(resolved):
    """Return the words, each as the list of the places of its signs, without stretches of `|` alone."""
    signs = signs_of(resolved)
    words, word = [], []
    for at, sign in enumerate(signs + [(" ", 0, "", 0)]):
        if sign[0] != " ":
            word.append(at)
        elif word:
            if any(signs[place][0] != "|" for place in word):
                words.append(word)
            word = []
    return words


def plain_boxes(resolved):
    """Return the words, each as the list of its boxes, each the list of the places of its letters."""
    signs = signs_of(resolved)
    found = []
    for word in split_words(resolved):
        boxes = [[]]
        for place in word:
            letters_before = [at for at in word if at < place and signs[at][0] != "|"]
            letters_behind = [at for at in word if at > place and signs[at][0] != "|"]
            if signs[place][0] != "|":
                boxes[-1].append(place)
            elif letters_before and letters_behind and boxes[-1]:
                boxes.append([])
        found.append(boxes)
    return found


def first_space(resolved, one, other):
    """Return the sign of the first space between two words of `split_words`."""
    signs = signs_of(resolved)
    return [signs[at] for at in range(one[-1], other[0]) if signs[at][0] == " "][0]


def plain_measures(resolved, faces):
    """Point 39, row by row; all letters are there."""
    signs = signs_of(resolved)
    rows = set()
    words = plain_boxes(resolved)
    for boxes in words:
        places = [place for box in boxes for place in box]
        for place in places:
            char, _, face, _ = signs[place]
            rows.add(("letter", face, char, faces[face].advance(char)))
        for one, other in zip(places, places[1:]):
            a, b = signs[one], signs[other]
            if a[1:3] == b[1:3]:
                rows.add(("pair", a[2], a[0], b[0], faces[a[2]].nearer(a[0], b[0])))
        for box in boxes[:-1]:
            a = signs[box[-1]]
            face = faces[a[2]]
            rows.add(("hyphen", a[2], a[0], face.advance("-"), face.nearer(a[0], "-")))
    split = split_words(resolved)
    for one, other in zip(split, split[1:]):
        face = first_space(resolved, one, other)[2]
        rows.add(("space", face) + tuple(faces[face].space))
    return tuple(sorted(rows))


def plain_marks(resolved, boxes):
    """Point 41: the marks of each box, which is a list of places of letters."""
    signs = signs_of(resolved)
    marks = [[] for _ in boxes]
    letters = [place for box in boxes for place in box]
    for number, run in enumerate(resolved):
        if run[0] == "mark":
            before = [place for place in letters if signs[place][3] < number]
            home = before[-1] if before else letters[0]
            mark = run[1:]
        elif run[0] == "shown":
            home = [place for place in letters if signs[place][3] == number][0]
            mark = ("ref", run[1])
        else:
            continue
        marks[[home in box for box in boxes].index(True)].append(mark)
    return marks


def plain_pieces(resolved, faces):
    """Points 40 and 41, straight from the faces."""
    signs = signs_of(resolved)
    words, split = plain_boxes(resolved), split_words(resolved)
    flat = [box for boxes in words for box in boxes]
    if not flat:
        return ((), ())
    boxes = []
    for places, marks in zip(flat, plain_marks(resolved, flat)):
        offset, letters = 0, []
        for at, place in enumerate(places):
            char, size, face, _ = signs[place]
            if at:
                before = signs[places[at - 1]]
                offset += before[1] * faces[before[2]].advance(before[0])
                if before[1:3] == (size, face):
                    offset -= size * faces[face].nearer(before[0], char)
            letters.append((char, offset, size, face))
        boxes.append((offset + size * faces[face].advance(char), tuple(letters), tuple(marks)))
    joints = []
    for number, word in enumerate(words):
        if number:
            _, size, face, _ = first_space(resolved, split[number - 1], split[number])
            joints.append(("gap",) + tuple(size * part for part in faces[face].space))
        for one, other in zip(word, word[1:]):
            a, b = signs[one[-1]], signs[other[0]]
            face = faces[a[2]]
            nearer = face.nearer(a[0], "-")
            join = a[1] * face.nearer(a[0], b[0]) if a[1:3] == b[1:3] else 0
            joints.append(("hyphen", a[1] * (face.advance("-") - nearer), join, ("-", -a[1] * nearer, a[1], a[2])))
    return (tuple(boxes), tuple(joints))
