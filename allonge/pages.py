"""Deeds and stories as texts: a deed is a line, its word and its parts with one blank between."""

from allonge.errors import BadLine, HallError
from allonge.hall import Hall
from allonge.past import do_deed
from allonge.slips import is_name

MOST_FIGURES = 30
# What the parts of each deed are; a fair has as many names as it likes and stands apart.
PARTS = {
    "house": ("name", "number"),
    "in": ("name", "number"),
    "out": ("name", "number"),
    "fail": ("name",),
    "mend": ("name",),
    "days": ("number",),
    "draw": ("name", "name", "name", "number", "number", "bound"),
    "accept": ("number", "number"),
    "sign": ("number", "number", "name", "bound"),
    "blank": ("number", "number", "name", "bound"),
    "hand": ("number", "number", "name"),
    "lose": ("number",),
    "present": ("number", "number"),
    "protest": ("number", "number"),
    "ask": ("number", "number", "number"),
    "honour": ("number", "number", "name", "number"),
}


def is_number(word):
    """Tell whether the text writes a number: at most 30 figures, no needless nought."""
    if not 1 <= len(word) <= MOST_FIGURES:
        return False
    # Python's own reading takes more: signs, blanks and underscores.
    if not all(["0" <= sign <= "9" for sign in word]):
        return False
    return word == "0" or word[0] != "0"


def read_part(kind, word):
    """Tell the part of this kind that the word writes."""
    if kind == "name" and is_name(word):
        return word
    if kind == "number" and is_number(word):
        return int(word)
    if kind == "bound" and word in ("bound", "free"):
        return word == "bound"
    raise BadLine(1)


def part_word(part):
    """Tell the word that writes a part of a deed."""
    if part is True:
        return "bound"
    if part is False:
        return "free"
    return str(part)


def deed_line(deed):
    """Tell the line that writes a deed."""
    word, *parts = deed
    if word == "fair":
        # Told, a fair has one part, which is all its names.
        parts = list(deed[1])
    return " ".join([word] + [part_word(part) for part in parts])


def read_deed(line):
    """Tell the deed that a line writes."""
    # Other than split() alone, this leaves line feeds and needless blanks in the words: so they are refused.
    word, *words = line.split(" ")
    if word == "fair":
        return "fair", tuple([read_part("name", name) for name in words])
    if word not in PARTS or len(words) != len(PARTS[word]):
        raise BadLine(1)
    parts = [read_part(kind, part) for kind, part in zip(PARTS[word], words)]
    return (word, *parts)


def written(hall):
    """Tell the story of a hall, line by line."""
    return "\n".join([deed_line(deed) for deed in hall.story()])


def opened(text):
    """Tell a hall in which the deeds of the lines were done."""
    hall = Hall()
    # Split, the text without signs would be one empty line, not none.
    lines = text.split("\n") if text else []
    for at, line in enumerate(lines, start=1):
        try:
            do_deed(hall, read_deed(line))
        except HallError as why:
            raise BadLine(at) from why
    return hall
