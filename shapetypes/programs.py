"""Programs, and how they are read."""

from shapetypes.errors import InvalidText, ParseError
from shapetypes.lines import CALL, CASE, ELSE, END, MATCH, NEW, Line
from shapetypes.names import is_name
from shapetypes.shapes import Shape

LABEL = "label"
# What the words behind the first one are, and how many of them must stand there.
FORMS = {
    "new": ("variable", "label"),
    "call": ("variable", "variable", "label", "variable", "variable"),
    "match": ("variable",),
    "else": (),
    "end": (),
}
NEEDED = {"new": 2, "call": 3, "match": 1, "else": 0, "end": 0}


class Program:
    """A list of statements with variables, made by reading its text."""

    MAX_LINES = 60
    MAX_VARIABLES = 6
    MAX_NESTING = 5

    def __init__(self, text, lines, slots):
        self._text = text
        self._slots = slots
        self.lines = lines

    @classmethod
    def read(cls, text):
        """The program with this text."""
        if not isinstance(text, str):
            raise ParseError(0, 0)
        reader = Reader()
        for row in text.split("\n"):
            reader.take_row(row)
        reader.check_end()
        return cls(text, tuple(reader.lines), tuple(reader.places))

    @property
    def text(self):
        return self._text

    @property
    def slots(self):
        return self._slots

    def __len__(self):
        return len(self.lines)

    def __eq__(self, other):
        return isinstance(other, Program) and self._text == other._text


class Reader:
    """Takes the rows of a text one after the other.

    The lines that were read are kept, and the positions of the variables in them. The matches that have not
    ended are kept, too, the innermost one last.
    """

    def __init__(self):
        self.lines = []
        self.places = {}
        self._around = []

    def take_row(self, row):
        """Read the next row, or refuse its first word that is not allowed."""
        number = len(self.lines) + 1
        if number > Program.MAX_LINES:
            raise ParseError(number, 1)
        if row == "" or row[0] == " " or row[-1] == " " or "  " in row:
            raise ParseError(number, 0)
        words = row.split(" ")
        if words[0] not in self.first_words():
            raise ParseError(number, 1)
        line = case_line(number, row) if words[0] == CASE else self.plain_line(number, words)
        self.link(number, line)
        self.lines.append(line)

    def first_words(self):
        """The words with which the next line can begin."""
        if self.lines and self.lines[-1].word == MATCH:
            return [CASE]
        told = [NEW, CALL]
        if len(self._around) < Program.MAX_NESTING:
            told.append(MATCH)
        if self._around:
            told.append(END)
            if self._around[-1].other is None:
                told.extend([CASE, ELSE])
        return told

    def plain_line(self, number, words):
        """The line with these words, which is no case."""
        form = FORMS[words[0]]
        places = []
        label = None
        for spot, word in enumerate(words[1:]):
            if spot == len(form) or not is_name(word):
                raise ParseError(number, spot + 2)
            if form[spot] == LABEL:
                label = word
            else:
                places.append(self.place_of_variable(word, number, spot + 2))
        if len(words) <= NEEDED[words[0]]:
            raise ParseError(number, len(words) + 1)
        return Line(words[0], tuple(places), label, None)

    def place_of_variable(self, name, number, spot):
        """The position of a variable among all variables of the program."""
        if name not in self.places:
            if len(self.places) == Program.MAX_VARIABLES:
                raise ParseError(number, spot)
            self.places[name] = len(self.places)
        return self.places[name]

    def link(self, number, line):
        """Tell the match around the next line of this line, and the lines of a match that ends of its end."""
        if line.word == MATCH:
            self._around.append(line)
        elif line.word == CASE:
            self._around[-1].goals.append(number)
        elif line.word == ELSE:
            self._around[-1].other = number
        elif line.word == END:
            ended = self._around.pop()
            others = [] if ended.other is None else [ended.other]
            for goal in ended.goals + others:
                self.lines[goal - 1].ending = number

    def check_end(self):
        """Refuse a text that ends within a match."""
        if self._around:
            raise ParseError(len(self.lines) + 1, 1)


def case_line(number, row):
    """The line "case" in this row: the shape is all behind the first word."""
    try:
        shape = Shape.read(row[len(CASE) + 1:])
    except InvalidText:
        raise ParseError(number, 2) from None
    return Line(CASE, (), None, shape)
