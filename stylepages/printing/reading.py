"""Printed pages, read back from their letters alone."""


def _goes_on(before, letter, faces):
    """Tell whether a letter belongs to the word of the letter before it."""
    x, char, size, face = before
    behind = x + size * faces[face].advance(char)
    if (size, face) == letter[2:]:
        behind = behind - size * faces[face].nearer(char, letter[1])
    return letter[0] == behind


def read_line(letters, faces):
    """Return the list of the words of the letters of one set line."""
    words = []
    before = None
    for letter in letters:
        if before is not None and _goes_on(before, letter, faces):
            words[-1] = words[-1] + letter[1]
        else:
            words.append(letter[1])
        before = letter
    return words


def _read_stream(lines, faces):
    """Return the list of the words of set lines, of which each goes on where the one before ends."""
    words = []
    is_cut = False
    for _, letters in lines:
        row = read_line(letters, faces)
        if is_cut:
            row = [words.pop() + row[0]] + row[1:]
        is_cut = row[-1].endswith("-")
        words.extend(row[:-1] + [row[-1].removesuffix("-")])
    return words


def read_back(pages, faces):
    """Return (main, floats, notes): the words of all columns, of each float and of each note."""
    main = [line for _, _, columns, _ in pages for column in columns for line in column]
    floats = [_read_stream(lines, faces) for page in pages for lines in page[1]]
    notes = [_read_stream(lines, faces) for page in pages for lines in page[3]]
    return (_read_stream(main, faces), floats, notes)
