"""Texts of floors."""

from touchrings.errors import BadText
from touchrings.floors import is_floor, need_floor


def text_of(floor):
    """The text of a floor."""
    need_floor(floor)
    rings, touches = floor
    lines = ["floor"] + [f"ring {length}" for length in rings]
    return "\n".join(lines + [f"touch {u} {i} {v} {j}" for (u, i), (v, j) in touches])


def read_floor(text):
    """The floor with a text."""
    if not isinstance(text, str):
        raise BadText(0)
    lines = text.split("\n")
    if lines[0] != "floor":
        raise BadText(1)
    floor = ((), ())
    for at, line in enumerate(lines[1:]):
        floor = _with_line(floor, line)
        if floor is None:
            raise BadText(at + 2)
    if floor == ((), ()):
        raise BadText(2)
    return floor


def _with_line(floor, line):
    """What has been read of a floor, with what one more line tells of it; None if no floor goes on so."""
    rings, touches = floor
    word, told = line_told(line)
    if word == "ring" and len(told) == 1 and touches == ():
        more = (rings + (told[0],), ())
    elif word == "touch" and len(told) == 4:
        more = (rings, touches + (((told[0], told[1]), (told[2], told[3])),))
    else:
        return None
    return more if is_floor(more) else None


def line_told(line):
    """The pair of the first word of a line and of the integers behind it; the word is None if there is more in it."""
    word, *numbers = line.split(" ")
    if not all([_is_number(number) for number in numbers]):
        return None, []
    return word, [int(number) for number in numbers]


def _is_number(word):
    """Whether a word is an integer from 0 on, as Python writes it."""
    return word.isascii() and word.isdigit() and (word == "0" or word[0] != "0")
