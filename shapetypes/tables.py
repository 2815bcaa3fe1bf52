"""Tables that show which shapes fit which."""

from shapetypes.fitting import fits


def fit_table(world, *shapes):
    """A text with a line for each shape that tells which shapes it fits."""
    rows = ["   " + "".join([f"{number:>3}" for number in range(1, len(shapes) + 1)])]
    for number, source in enumerate(shapes, start=1):
        signs = ["  +" if fits(world, source, target) else "  -" for target in shapes]
        rows.append(f"{number:>3}" + "".join(signs))
    return "\n".join(rows)
