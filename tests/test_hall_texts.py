"""Texts of halls [13.5]."""

import random

import reference
from samples import (BARE, CHAIN, Case, EVEN, FLOOR, JUNK, POINT, POINTS, SIX, TWO_PARTS, mixed)
from touchrings.called import called_rest
from touchrings.errors import BadText
from touchrings.halls import Hall, read_hall
from touchrings.plans import home

PROMISED = "floor\nring 2\nring 4\ntouch 0 1 1 1\ndancers 1 2 5 0 3 4\napart 0 1\njoined\nnumber 2\n"
PROMISED += "callable 0 1 2 3 4 5"
WORDS = ["", " ", "floor", "ring 2", "ring 0", "ring 02", "ring", "ring 1 1", "touch 0 0 1 0", "touch 0 0 0 0",
         "touch 0 1 1 1", "dancers", "dancers 0", "dancers 0 1 2 3 4 5", "dancers 5 4 3 2 1 0", "dancers 0 1 2 3 4 4",
         "dancers 0 1 2 3 4 5 ", "dancers  0 1 2 3 4 5", "dancers 0 1 2 3 4 6", "dancers -1 0 1 2 3 4", "joined",
         "joined 0", "joined ", "free", "free 1", "number", "number 2", "number 4", "number 3", "number 0",
         "number 1001", "number 1000", "number 02", "number +2", "number 2 2", "callable", "callable 0",
         "callable 2 1 0 3 4 5",
         "callable 1 0 2 3 4 5", "callable 0 1 2 3 4 5 6", "apart 0 1", "apart 1 0", "apart 0 2", "apart 2 5",
         "apart 0 0", "apart 0 6", "apart 0", "apart 0 1 2", "apart -1 0", "Joined", "holds", "parts 0",
         "touch 0 0 1 3", "ring 5",
         "number 99999999999999999999", "ring 99999999999999999999", "dancers 99999999999999999999", "number \u0662"]


def numbers_of(words):
    """The integers that words tell, None if one of them tells none."""
    if any(not word.isascii() or not word.isdigit() or str(int(word)) != word for word in words):
        return None
    return [int(word) for word in words]


def first_wrong(text):
    """The number of the first line that is wrong or missing, None for a text of a hall."""
    lines = text.split("\n")
    if lines[0] != "floor":
        return 1
    rings, touches, arrangement, promises = [], [], None, []
    for at, line in enumerate(lines[1:], start=2):
        word, *rest = line.split(" ")
        numbers = numbers_of(rest)
        if numbers is None:
            return at
        if arrangement is not None:
            if not promise_holds((tuple(rings), tuple(touches)), arrangement, word, numbers) or line in promises:
                return at
            promises.append(line)
        elif word == "ring" and touches == [] and len(numbers) == 1 and numbers[0] >= 1 and len(rings) < 40:
            rings.append(numbers[0])
        elif word == "touch" and len(numbers) == 4 and can_follow(rings, touches, numbers):
            touches.append((tuple(numbers[:2]), tuple(numbers[2:])))
        elif word == "dancers" and len(numbers) == sum(rings) > 0 and sorted(numbers) == list(range(len(numbers))):
            arrangement = tuple(numbers)
        else:
            return at
    return len(lines) + 1 if arrangement is None else None


def can_follow(rings, touches, numbers):
    """Whether four numbers tell a touch that can stand behind the other ones."""
    x, y = tuple(numbers[:2]), tuple(numbers[2:])
    if not all(u < len(rings) and i < rings[u] for u, i in (x, y)) or x >= y:
        return False
    if any(x in touch or y in touch for touch in touches):
        return False
    return touches == [] or touches[-1] < (x, y)


def promise_holds(floor, arrangement, word, numbers):
    """Whether a line tells a promise that holds [13.2]."""
    many = sum(floor[0])
    if word in ("joined", "free"):
        joined = len(reference.parts(floor)) == 1
        return numbers == [] and joined and (word == "joined" or reference.is_free(floor))
    if word == "number":
        numbered = reference.numbers_and_labels(floor)[0]
        return len(numbers) == 1 and 1 <= numbers[0] <= 1000 and all(numbers[0] % number == 0 for number in numbered)
    if word == "callable":
        if len(numbers) != many or sorted(numbers) != list(range(many)):
            return False
        return called_rest(floor, arrangement, tuple(numbers)) is not None
    if word != "apart" or len(numbers) != 2 or not numbers[0] < numbers[1] < many:
        return False
    x, y = [reference.place_of(floor, arrangement, dancer) for dancer in numbers]
    return not any(x in lot and y in lot for lot in reference.classes(floor))


class Texts(Case):
    def reads(self, text):
        """What is read of a text, or the error told, is as the words of the document tell."""
        wanted = first_wrong(text)
        if wanted is None:
            hall = read_hall(text)
            self.same(str(hall), text)
            self.same(hall.deeds(), 0)
            return True
        error = self.raised(read_hall, text)
        self.assertIs(type(error), BadText, text)
        self.same(vars(error), {"at": wanted})
        return False

    def test_document_examples(self):
        error = self.raised(read_hall, "floor\nring 2\ndancers 0 1\nfree")
        self.assertIs(type(error), BadText)
        self.same(error.at, 4)
        hall = read_hall("floor\nring 2\nring 4\ntouch 0 1 1 1\ndancers 1 2 5 0 3 4\napart 0 1")
        self.same([hall.floor(), hall.arrangement(), hall.promises(), hall.deeds()],
                  [EVEN, (1, 2, 5, 0, 3, 4), (("apart", 0, 1),), 0])

    def test_texts_and_back(self):
        for floor in [FLOOR, EVEN, BARE, POINT, POINTS, SIX, TWO_PARTS, CHAIN]:
            hall = Hall(floor)
            self.assertTrue(self.reads(str(hall)))
            hall.change(("plan", (("times", 5, (("beat", tuple(range(len(floor[1])))),)),)))
            for promise in [("joined",), ("free",), ("number", 12), ("apart", 0, 1), ("callable", mixed(floor, 2)),
                            ("callable", home(floor)), ("apart", 0, len(home(floor)) - 1), ("number", 1000)]:
                if hall.would((("promise", promise),)):
                    hall.change(("promise", promise))
            self.assertTrue(self.reads(str(hall)))
            again = read_hall(text=str(hall))
            self.assertEqual(again, hall)
            self.same([again.floor(), again.arrangement(), again.promises()],
                      [hall.floor(), hall.arrangement(), hall.promises()])

    def test_a_read_hall_goes_on(self):
        hall = read_hall(PROMISED)
        self.same(hall.promises(), (("apart", 0, 1), ("joined",), ("number", 2), ("callable", (0, 1, 2, 3, 4, 5))))
        self.assertIs(hall.would((("bar", 0),)), False)
        hall.change(("beat", ()))
        hall.undo()
        self.same(str(hall), PROMISED)

    def test_no_strings(self):
        for thing in JUNK + [Hall(FLOOR), [PROMISED], (PROMISED,)]:
            if not isinstance(thing, str):
                error = self.raised(read_hall, thing)
                self.assertIs(type(error), BadText)
                self.same(vars(error), {"at": 0})
            else:
                self.assertFalse(self.reads(thing))

    def test_each_line_left_out_doubled_exchanged(self):
        for text in [PROMISED, str(Hall(TWO_PARTS)), str(Hall(POINT)), str(Hall(FLOOR)) + "\nfree\njoined\nnumber 1"]:
            lines = text.split("\n")
            for at in range(len(lines)):
                self.reads("\n".join(lines[:at] + lines[at + 1:]))
                self.reads("\n".join(lines[:at] + lines[at:at + 1] + lines[at:]))
                self.reads("\n".join(lines[:at]))
                for other in range(at):
                    turned = list(lines)
                    turned[at], turned[other] = turned[other], turned[at]
                    self.reads("\n".join(turned))

    def test_each_line_replaced_and_more_put_in(self):
        right = 0
        for text in [PROMISED, str(Hall(BARE)), str(Hall(FLOOR)) + "\nnumber 999"]:
            lines = text.split("\n")
            for at in range(len(lines) + 1):
                for word in WORDS:
                    right += self.reads("\n".join(lines[:at] + [word] + lines[at:]))
                    right += self.reads("\n".join(lines[:at] + [word] + lines[at + 1:]))
        self.assertGreater(right, 20)

    def test_each_character_replaced(self):
        for text in [PROMISED, str(Hall(POINTS)) + "\nnumber 1"]:
            for at in range(len(text) + 1):
                for char in [" ", "\n", "0", "1", "-", "x", "\t", "\r", "+", "_"]:
                    self.reads(text[:at] + char + text[at:])
                    self.reads(text[:at] + char + text[at + 1:])
                self.reads(text[:at])
                self.reads(text[at:])

    def test_lines_by_chance(self):
        chance = random.Random(2)
        start = ["floor", "ring 2", "ring 4", "touch 0 1 1 1", "dancers 0 1 2 3 4 5"]
        right = 0
        for _ in range(600):
            many = chance.choice([2, 3, 4, 5, 5, 5])
            right += self.reads("\n".join(start[:many] + [chance.choice(WORDS) for _ in range(chance.randrange(4))]))
        self.assertGreater(right, 50)

    def test_great_rings(self):
        self.assertTrue(self.reads("floor\nring 100\ndancers " + " ".join(str(99 - at) for at in range(100))))
        self.assertFalse(self.reads("floor\nring 99999999999999999999\ndancers 0 1 2"))
        self.assertFalse(self.reads("floor\nring 99999999999999999999"))
        self.assertFalse(self.reads("floor" + "\nring 1" * 41))
        self.assertTrue(self.reads("floor" + "\nring 1" * 40 + "\ndancers " + " ".join(map(str, range(40)))))
