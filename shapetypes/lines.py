"""The lines of programs."""

NEW = "new"
CALL = "call"
MATCH = "match"
CASE = "case"
ELSE = "else"
END = "end"
# The lines that a run performs; the others only tell where the blocks of a match begin and end.
PERFORMED = ("new", "call", "match")


class Line:
    """A line of a program.

    places are the positions of its variables among all variables of the program. label is the kind of a line
    "new", and the method of a line "call"; shape is the one of a line "case". Other lines are told by their
    numbers, which are counted from 1: goals are the lines "case" of a match, and other is its line "else", or
    None; ending is the line "end" behind the block of a line "case" or "else".
    """

    def __init__(self, word, places, label, shape):
        self.word = word
        self.places = places
        self.label = label
        self.shape = shape
        self.goals = []
        self.other = None
        self.ending = None
