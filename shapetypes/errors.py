"""The exceptions of the package; the parameters of their constructors are their fields."""

MAX_SHOWN = 40


def brief(value):
    """Tell a value in a message.

    Only short texts and small numbers are shown: other values can have more parts than any message
    could hold.
    """
    if isinstance(value, str) and len(value) <= MAX_SHOWN:
        return repr(value)
    if isinstance(value, int) and abs(value) < 1000000:
        return repr(value)
    if value is None:
        return "None"
    return "(not shown)"


class ShapetypesError(ValueError):
    """The base class of all exceptions of the package, never raised itself."""


class InvalidAtom(ShapetypesError):
    """A value cannot stand in an atom."""

    def __init__(self, part):
        super().__init__(f"not an atom: {brief(part)}")
        self.part = part


class InvalidShape(ShapetypesError):
    """A value that is no atom stands in a shape."""

    def __init__(self, spot):
        super().__init__(f"not an atom of a shape: position {brief(spot)}")
        self.spot = spot


class InvalidText(ShapetypesError):
    """A value is not the text of a shape."""

    def __init__(self, value):
        super().__init__(f"not the text of a shape: {brief(value)}")
        self.value = value


class InvalidDeclaration(ShapetypesError):
    """A declaration, or a part of one, breaks a rule."""

    def __init__(self, rule, item=None):
        super().__init__(f"not a declaration: {brief(rule)}, {brief(item)}")
        self.rule = rule
        self.item = item


class InvalidWorld(ShapetypesError):
    """The declarations of a world break a rule."""

    def __init__(self, rule, item=None):
        super().__init__(f"not a world: {brief(rule)}, {brief(item)}")
        self.rule = rule
        self.item = item


class UnknownName(ShapetypesError):
    """A name is not declared."""

    def __init__(self, word):
        super().__init__(f"unknown name: {brief(word)}")
        self.word = word


class WrongArguments(ShapetypesError):
    """An atom has arguments that its name does not take."""

    def __init__(self, word):
        super().__init__(f"wrong arguments of an atom: {brief(word)}")
        self.word = word


class InvalidUse(ShapetypesError):
    """A value is not a use of a world."""

    def __init__(self, spot):
        super().__init__(f"not a use: position {brief(spot)}")
        self.spot = spot


class NotAllowed(ShapetypesError):
    """A use is not allowed."""

    def __init__(self, spot):
        super().__init__(f"a use is not allowed: position {brief(spot)}")
        self.spot = spot


class InvalidAnswer(ShapetypesError):
    """An answer has no form of an answer, or is not correct."""

    def __init__(self, part):
        super().__init__(f"not a correct answer: {brief(part)}")
        self.part = part


class TooLarge(ShapetypesError):
    """More would have to be looked at than the limit allows."""

    def __init__(self, limit):
        super().__init__(f"too large: more than {brief(limit)}")
        self.limit = limit


class InvalidKinds(ShapetypesError):
    """A value is not a tuple of names of kinds."""

    def __init__(self, part, spot=None):
        super().__init__(f"not kinds of a world: {brief(part)}, position {brief(spot)}")
        self.part = part
        self.spot = spot


class NotTaken(ShapetypesError):
    """A kind does not allow a use."""

    def __init__(self, use):
        super().__init__("a kind does not allow a use")
        self.use = use


class InvalidChoice(ShapetypesError):
    """A choice is none of the possible kinds."""

    def __init__(self, spot):
        super().__init__(f"not a possible choice: position {brief(spot)}")
        self.spot = spot


class MissingChoice(ShapetypesError):
    """A choice is needed, and there is none left."""

    def __init__(self, line):
        super().__init__(f"a choice is missing: line {brief(line)}")
        self.line = line


class InvalidNumber(ShapetypesError):
    """A value is not the number of a line that can be reached."""

    def __init__(self, value):
        super().__init__(f"not the number of a line: {brief(value)}")
        self.value = value


class LimitExceeded(ShapetypesError):
    """There are as many changes as there may be."""

    def __init__(self, limit):
        super().__init__(f"limit exceeded: {brief(limit)}")
        self.limit = limit


class Broken(ShapetypesError):
    """A pledge does not hold."""

    def __init__(self, number):
        super().__init__(f"a pledge is broken: number {brief(number)}")
        self.number = number


class NothingToUndo(ShapetypesError):
    """There is no change to undo."""

    def __init__(self):
        super().__init__("there is nothing to undo")


class ParseError(ShapetypesError):
    """A text is not a program."""

    def __init__(self, line, word):
        super().__init__(f"not a program: line {brief(line)}, word {brief(word)}")
        self.line = line
        self.word = word
