"""What counts as a whole number and as a sign, for all modules."""

# The percent sign by its number: the language of the package bars it from texts.
PERCENT = 37


def is_whole(value):
    """Tell whether the value is a whole number."""
    # Python counts truths among the ints, the document does not.
    return isinstance(value, int) and not isinstance(value, bool)


def is_within(value, least, most):
    """Tell whether the value is a whole number from least to most."""
    return is_whole(value) and least <= value <= most


def is_tuple_of(value, many):
    """Tell whether the value is a tuple with just so many things in it."""
    return isinstance(value, tuple) and len(value) == many


def are_signs(value):
    """Tell whether the value is a text of signs only, or the empty one."""
    if not isinstance(value, str):
        return False
    return all([" " <= sign <= "~" and ord(sign) != PERCENT for sign in value])


def is_sign(value):
    """Tell whether the value is one sign."""
    return are_signs(value) and len(value) == 1
