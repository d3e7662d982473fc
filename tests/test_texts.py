"""Texts [1.6]."""

import itertools

from samples import CHAIN, Case, EVEN, FLOOR, FLOORS, FORTY, JUNK, POINT, SIX, WRONG_FLOORS
from touchrings.errors import BadFloor, BadText
from touchrings.floors import is_floor
from touchrings.texts import read_floor, text_of

HEAD = "floor\nring 2\nring 3"


class Texts(Case):
    def bad_line(self, at, text):
        for error in [self.raised(read_floor, text), self.raised(read_floor, text=text)]:
            self.assertIs(type(error), BadText, text)
            self.same(error.at, at)

    def test_text_of(self):
        self.same(text_of(FLOOR), "floor\nring 2\nring 3\ntouch 0 0 1 0")
        self.same(text_of(floor=POINT), "floor\nring 1")
        self.same(text_of(((10, 1), (((0, 2), (0, 9)), ((0, 7), (1, 0))))),
                  "floor\nring 10\nring 1\ntouch 0 2 0 9\ntouch 0 7 1 0")

    def test_text_of_wrong(self):
        for thing in WRONG_FLOORS:
            self.raises(BadFloor, thing, text_of, thing)

    def test_read_floor(self):
        self.same(read_floor("floor\nring 2"), ((2,), ()))
        self.same(read_floor(text="floor\nring 6\ntouch 0 0 0 2"), SIX)
        self.same(read_floor(HEAD + "\ntouch 0 1 1 0\ntouch 1 1 1 2"), ((2, 3), (((0, 1), (1, 0)), ((1, 1), (1, 2)))))
        for floor in FLOORS:
            self.same(read_floor(text_of(floor)), floor)

    def test_numbers_of_twenty_digits(self):
        floor = ((10 ** 20 - 1, 3), (((0, 10 ** 20 - 2), (1, 2)),))
        self.same(read_floor(text_of(floor)), floor)

    def test_no_strings(self):
        for thing in [thing for thing in JUNK if not isinstance(thing, str)] + [b"floor", ["floor"], ("floor",)]:
            self.bad_line(0, thing)

    def test_the_first_line(self):
        for text in ["", "\n", "Floor", "floor ", " floor", "floors", "ring 2", "\nfloor\nring 2", "floor\r\nring 2"]:
            self.bad_line(1, text)
        self.bad_line(1, "floor ring 2")

    def test_lines_that_lack(self):
        self.bad_line(2, "floor")

    def test_forty_rings_and_one_more(self):
        self.same(read_floor("floor" + "\nring 1" * 40), ((1,) * 40, ()))
        self.same(read_floor(text_of(FORTY)), FORTY)
        self.bad_line(42, "floor" + "\nring 1" * 41)
        self.bad_line(42, "floor" + "\nring 1" * 41 + "\nring 0")

    def test_empty_lines_and_line_feeds_at_the_end(self):
        self.bad_line(2, "floor\n")
        self.bad_line(2, "floor\n\nring 2")
        self.bad_line(4, HEAD + "\n")
        self.bad_line(4, HEAD + "\n\ntouch 0 0 1 0")
        self.bad_line(5, text_of(FLOOR) + "\n")
        self.bad_line(5, text_of(FLOOR) + "\n\n")

    def test_numbers_that_python_writes_otherwise(self):
        for number in ["02", "+2", "2.0", "2 ", " 2", "0x2", "2_0", "-2", "two", "", "0", "1e1", "\u0662", "\u00b2",
                       "2\t", "2\r"]:
            self.bad_line(2, "floor\nring " + number)
            self.bad_line(3, "floor\nring 2\nring " + number)
        for number in ["00", "-0", "+0", "0 ", " 0", "", "0.", "\u0660", "False"]:
            for at in range(4):
                words = ["0", "0", "1", "0"]
                words[at] = number
                self.bad_line(4, HEAD + "\ntouch " + " ".join(words))

    def test_rings(self):
        for line in ["ring", "ring ", "ring 2 3", "Ring 2", "rings 2", "ring  2", " ring 2", "2", "ring2", "floor"]:
            self.bad_line(2, "floor\n" + line)
            self.bad_line(3, "floor\nring 5\n" + line + "\nring 1")
        self.bad_line(2, "floor\ntouch 0 0 0 1")
        self.bad_line(5, text_of(FLOOR) + "\nring 2")

    def test_touches(self):
        for line in ["touch", "touch 0 0 1", "touch 0 0 1 0 0", "touch 0 0", "Touch 0 0 1 0", "touch  0 0 1 0",
                     "touch 0 0  1 0", "touch 0 0 1 0 ", "touch 0 0 0 0", "touch 1 0 0 0", "touch 0 1 0 0",
                     "touch 0 2 1 0", "touch 0 0 1 3", "touch 0 0 2 0", "touch 2 0 3 0", "0 0 1 0",
                     "touch (0, 0) (1, 0)"]:
            self.bad_line(4, HEAD + "\n" + line)
            self.bad_line(4, HEAD + "\n" + line + "\ntouch 0 0 1 0")
        for line in ["touch 0 0 1 0", "touch 0 0 1 1", "touch 0 1 1 0", "touch 1 0 1 1"]:
            self.bad_line(5, text_of(FLOOR) + "\n" + line)
        self.bad_line(5, HEAD + "\ntouch 0 1 1 1\ntouch 0 0 1 0")
        self.same(read_floor(text_of(FLOOR) + "\ntouch 0 1 1 1"), ((2, 3), (((0, 0), (1, 0)), ((0, 1), (1, 1)))))

    def test_document_example(self):
        self.bad_line(3, "floor\nring 2\ntouch 0 0 0 0")

    def test_as_defined_for_all_short_texts(self):
        lines = ["floor", "ring 1", "ring 2", "touch 0 0 0 1", "touch 0 0 1 0", "touch 0 1 1 0", "touch 1 0 1 1", ""]
        texts = ["\n".join(text) for many in range(1, 5) for text in itertools.product(lines, repeat=many)]
        floors = []
        for many in range(1, 4):
            for rings in itertools.product((1, 2), repeat=many):
                touches = [((0, 0), (0, 1)), ((0, 0), (1, 0)), ((0, 1), (1, 0)), ((1, 0), (1, 1))]
                for few in range(4):
                    floors += [(rings, some) for some in itertools.combinations(touches, few)]
        floors = [floor for floor in floors if is_floor(floor)]
        right = {text_of(floor): floor for floor in floors}
        prefixes = {"\n".join(text.split("\n")[:many]) for text in right for many in range(1, 8)}
        for text in texts:
            if text in right:
                self.same(read_floor(text), right[text])
                continue
            rows = text.split("\n")
            ats = [at for at in range(1, len(rows) + 1) if "\n".join(rows[:at]) not in prefixes]
            self.bad_line(ats[0] if ats else len(rows) + 1, text)

    def test_evens_and_chains(self):
        for floor in [EVEN, CHAIN]:
            rows = text_of(floor).split("\n")
            for at in range(len(rows)):
                self.bad_line(at + 1, "\n".join(rows[:at] + ["ring x"] + rows[at + 1:]))
