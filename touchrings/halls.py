"""Halls: a floor and its dancers under deeds, with promises that hold at all times."""

from touchrings.changes import changed, dealt, need_kept
from touchrings.errors import BadPromise, BadText, FloorError, NothingToRedo, NothingToUndo
from touchrings.plans import home, is_arrangement
from touchrings.promises import against, is_against, is_promise
from touchrings.texts import line_told, read_floor, text_of


class Hall:
    """A floor, an arrangement on it, and promises, with the deeds that can be undone and redone."""

    def __init__(self, floor):
        self._now = (floor, home(floor), ())
        self._past = []
        self._undone = []

    def floor(self):
        """The floor as it is now."""
        return self._now[0]

    def arrangement(self):
        """The arrangement that stands."""
        return self._now[1]

    def promises(self):
        """The tuple of the promises, in the order in which they were made."""
        return self._now[2]

    def deeds(self):
        """How many deeds can be undone."""
        return len(self._past)

    def judged(self, promise):
        """("holds",), or a certificate against a promise, made or not."""
        _need_promise(promise)
        told = against(self._now[0], self._now[1], promise)
        return ("holds",) if told is None else told

    def against_holds(self, promise, thing):
        """Whether any value is a certificate against a promise, made or not."""
        _need_promise(promise)
        return is_against(self._now[0], self._now[1], promise, thing)

    def change(self, change):
        """Do one change, as a deed."""
        state = changed(self._now, change)
        need_kept(state)
        self._do(state)

    def deal(self, changes):
        """Do changes one behind the other, as one deed."""
        self._do(dealt(self._now, changes))

    def _do(self, state):
        """Come to another state by a deed."""
        self._past.append(self._now)
        self._undone = []
        self._now = state

    def would(self, changes):
        """Whether a deal with any value would be done."""
        try:
            dealt(self._now, changes)
        except FloorError:
            return False
        return True

    def undo(self):
        """Take the last deed back."""
        if self._past == []:
            raise NothingToUndo()
        self._undone.append(self._now)
        self._now = self._past.pop()

    def redo(self):
        """Do the last deed that was taken back again."""
        if self._undone == []:
            raise NothingToRedo()
        self._past.append(self._now)
        self._now = self._undone.pop()

    def copied(self):
        """An equal hall with the same deeds, which goes its own way."""
        other = Hall(self._now[0])
        other._now = self._now
        other._past = list(self._past)
        other._undone = list(self._undone)
        return other

    def __eq__(self, other):
        return isinstance(other, Hall) and str(self) == str(other)

    def __str__(self):
        floor, arrangement, promises = self._now
        lines = [text_of(floor), _line("dancers", arrangement)]
        return "\n".join(lines + [_promise_line(promise) for promise in promises])


def _need_promise(promise):
    """Raise BadPromise for any value that is no promise of whatever floor."""
    if not is_promise(promise):
        raise BadPromise(promise)


def _line(word, numbers):
    """The line of a word and of integers."""
    return " ".join([word, *[str(number) for number in numbers]])


def _promise_line(promise):
    """The line that tells a promise."""
    return _line(promise[0], promise[1] if promise[0] == "callable" else promise[1:])


def _promise_told(line):
    """What a line tells that should tell a promise."""
    word, numbers = line_told(line)
    return (word, tuple(numbers)) if word == "callable" else (word, *numbers)


def read_hall(text):
    """The hall with a text, without deeds."""
    if not isinstance(text, str):
        raise BadText(0)
    lines = text.split("\n")
    words = [line.split(" ")[0] for line in lines]
    at = words.index("dancers") if "dancers" in words else len(lines)
    floor = read_floor("\n".join(lines[:at]))
    if at == len(lines):
        raise BadText(at + 1)
    arrangement = tuple(line_told(lines[at])[1])
    if not is_arrangement(floor, arrangement):
        raise BadText(at + 1)
    promises = ()
    for number, line in enumerate(lines[at + 1:], start=at + 2):
        promise = _promise_told(line)
        if not is_promise(promise) or promise in promises or against(floor, arrangement, promise) is not None:
            raise BadText(number)
        promises = (*promises, promise)
    hall = Hall(floor)
    hall._now = (floor, arrangement, promises)
    return hall
