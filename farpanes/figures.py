"""Whole numbers as they stand in written talks and changes."""

# No number that is written has more; so Python's own limit for reading long numbers is never met.
MOST_FIGURES = 3


def written_numbers(numbers):
    """The numbers with commas between."""
    return ",".join([str(number) for number in numbers])


def numbers_of(text):
    """What stands between commas, each a whole number, or None where none is written so."""
    return [number_of(written) for written in text.split(",")]


def number_of(text):
    """The whole number that is written so, None if there is none."""
    figures = text.removeprefix("-")
    if not 1 <= len(figures) <= MOST_FIGURES or not all(["0" <= figure <= "9" for figure in figures]):
        return None
    number = int(text)
    # Python also reads noughts ahead and a nought below 0, but no number is written so.
    return number if str(number) == text else None
