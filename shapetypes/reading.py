"""Reads the texts of shapes.

What is read is told as a tree: the list of the atoms of a shape, each one a pair of its name and the
list of the trees of its arguments.
"""

from shapetypes.errors import InvalidText
from shapetypes.names import NEVER, SIGNS, is_name

MAX_TEXT = 2000
MAX_DEPTH = 6


def read_tree(text):
    """The tree of the shape with this text."""
    if not isinstance(text, str) or len(text) > MAX_TEXT:
        raise InvalidText(text)
    tree, end = read_atoms(text, 0, MAX_DEPTH)
    if end != len(text):
        raise InvalidText(text)
    return tree


def read_atoms(text, start, depth):
    """The tree of the shape that begins at a position, and the position behind it.

    Arguments may be nested as deep as depth tells: so recursion ends soon for texts of any depth.
    """
    end = word_end(text, start)
    if text[start:end] == NEVER:
        return [], end
    atom, end = read_atom(text, start, depth)
    atoms = [atom]
    while text[end:end + 3] == " | ":
        atom, end = read_atom(text, end + 3, depth)
        atoms.append(atom)
    return atoms, end


def read_atom(text, start, depth):
    """The name and the trees of the arguments of an atom, and the position behind it."""
    end = word_end(text, start)
    name = text[start:end]
    if not is_name(name):
        raise InvalidText(text)
    if text[end:end + 1] != "[":
        return (name, []), end
    if depth == 0:
        raise InvalidText(text)
    arguments, end = read_arguments(text, end + 1, depth - 1)
    return (name, arguments), end


def read_arguments(text, start, depth):
    """The trees of the arguments behind a bracket, and the position behind the closing one."""
    argument, end = read_atoms(text, start, depth)
    arguments = [argument]
    while text[end:end + 2] == ", ":
        argument, end = read_atoms(text, end + 2, depth)
        arguments.append(argument)
    if text[end:end + 1] != "]":
        raise InvalidText(text)
    return arguments, end + 1


def word_end(text, start):
    """The position behind the signs of names that stand from a position on."""
    end = start
    while end < len(text) and text[end] in SIGNS:
        end += 1
    return end
