"""Texts of weavings: a line for each deed."""

from longstrike.errors import BadLine, BadWeaving
from longstrike.forms import is_name, is_number, is_row
from longstrike.weavings import is_deed

PIECE_WORDS = ("spread", "clear", "fell")
NOTHING = "-"


def write_weaving(weaving):
    """Return the text of a weaving."""
    if not is_row(weaving):
        raise BadWeaving(0)
    lines = []
    for index, deed in enumerate(weaving):
        if not _has_line(deed):
            raise BadWeaving(index)
        lines.append(" ".join(_words_of(deed)))
    return "\n".join(lines)


def read_weaving(text):
    """Return the list of the deeds of a text, as tuples throughout."""
    if text == "":
        return []
    weaving = []
    for index, line in enumerate(text.split("\n")):
        deed = _deed_of(line.split(" "))
        if not _has_line(deed):
            raise BadLine(index)
        weaving.append(deed)
    return weaving


def _has_line(thing):
    """Tell whether any object is a deed that can be written: with names, numbers and pieces wherever they belong."""
    if not is_deed(thing):
        return False
    word = thing[0]
    if word in ("do", "stop"):
        return is_number(thing[1])
    if word == "look":
        return is_number(thing[1]) and _is_piece(thing[2]) and _is_list(thing[3])
    if not is_name(thing[1]) or not is_number(thing[2]):
        return False
    if word == "put":
        return all([is_name(column) for column, owner in thing[3]])
    return word == "strike" or is_name(thing[3]) and (thing[4] is None or is_number(thing[4]))


def _is_piece(thing):
    if not isinstance(thing, str):
        return False
    words = thing.split(" ")
    return len(words) == 2 and words[0] in PIECE_WORDS and is_name(words[1])


def _is_list(thing):
    """Tell whether any object is a list of numbers; one of which a number stands twice has a line, too."""
    return is_row(thing) and len(thing) > 0 and all([is_number(number) for number in thing])


def _words_of(deed):
    """Return the list of the words of the line of a deed."""
    if deed[0] == "put":
        owners = [f"{column}={owner}" for column, owner in deed[3]]
        return ["put", deed[1], str(deed[2]), *owners]
    if deed[0] == "look":
        return ["look", str(deed[1]), deed[2], *[str(number) for number in deed[3]]]
    return [NOTHING if item is None else str(item) for item in deed]


def _deed_of(words):
    """Return what the words of a line tell, which is no deed with a line if they are not those of one."""
    things = [_thing_of(word) for word in words]
    if words[0] == "put":
        owners = [tuple([_thing_of(part) for part in word.split("=")]) for word in words[3:]]
        return (*things[:3], tuple(owners))
    if words[0] == "look":
        return (*things[:2], " ".join(words[2:4]), tuple(things[4:]))
    return tuple(things)


def _thing_of(word):
    """Return the number or the None that a word tells, or the word."""
    if word.isascii() and word.isdigit() and (word == "0" or word[0] != "0"):
        return int(word)
    return None if word == NOTHING else word
