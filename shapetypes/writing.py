"""Writes the texts of shapes, and brings atoms into the order of their texts.

The order is found without writing the texts: shapes that contain the same shape many times can have
texts that are too long to be written.
"""

from shapetypes.names import NEVER


def split_text(atoms, behind):
    """The text of the shape with these atoms, and what stands behind it, without its arguments.

    The texts between the arguments are returned, and the arguments: one less than texts.
    """
    texts = []
    arguments = []
    start = ""
    for atom in atoms:
        start = start + atom.name
        for spot, argument in enumerate(atom.arguments):
            texts.append(start + ("[" if spot == 0 else ", "))
            arguments.append(argument)
            start = ""
        start = start + ("] | " if atom.arguments else " | ")
    texts.append((start[:-3] if atoms else NEVER) + behind)
    return texts, arguments


def write_text(atoms):
    """The text of the shape with these atoms, which are ascending."""
    texts, arguments = split_text(atoms, "")
    told = [texts[0]]
    for spot, argument in enumerate(arguments):
        told.append(argument.text)
        told.append(texts[spot + 1])
    return "".join(told)


def is_less(atoms, others, behind, behind_others):
    """Whether the text of the atoms comes before the text of the others, which are not the same.

    A text can be the beginning of the other one; then what stands behind it decides.
    """
    texts, arguments = split_text(atoms, behind)
    other_texts, other_arguments = split_text(others, behind_others)
    spot = 0
    while texts[spot] == other_texts[spot]:
        one = arguments[spot]
        other = other_arguments[spot]
        if one != other:
            return is_less(one.atoms, other.atoms, texts[spot + 1][:1], other_texts[spot + 1][:1])
        spot += 1
    return texts[spot] < other_texts[spot]


def place_of(atom, atoms):
    """How many of the atoms, which are ascending, come before an atom."""
    low = 0
    high = len(atoms)
    while low < high:
        middle = (low + high) // 2
        if atoms[middle] != atom and is_less((atoms[middle],), (atom,), "", ""):
            low = middle + 1
        else:
            high = middle
    return low


def ascending(atoms):
    """The tuple of the atoms, each once, ascending by their texts."""
    told = []
    for atom in atoms:
        spot = place_of(atom, told)
        if spot == len(told) or told[spot] != atom:
            told.insert(spot, atom)
    return tuple(told)
