"""Names, as atoms, methods, kinds, roles and parameters have them."""

MAX_NAME = 20
LETTERS = "ABCDEFGHIJKLMNOPQRSTUVWXYZabcdefghijklmnopqrstuvwxyz"
SIGNS = "ABCDEFGHIJKLMNOPQRSTUVWXYZabcdefghijklmnopqrstuvwxyz0123456789_"
NEVER = "Never"
OBJECT = "Object"


def is_name(value):
    """Whether any value is a name."""
    if not isinstance(value, str) or not 1 <= len(value) <= MAX_NAME or value == NEVER:
        return False
    return value[0] in LETTERS and all([sign in SIGNS for sign in value])


def is_free_name(value):
    """Whether any value is a name that a declaration or a parameter can have."""
    return is_name(value) and value != OBJECT
