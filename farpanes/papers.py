"""Changes written as texts, and read again."""

from farpanes.changes import need_change
from farpanes.errors import BadChange
from farpanes.figures import numbers_of, written_numbers

MOST_NUMBER = 999

# What stands behind the numbers of each part, by the letter ahead of them.
ENDS = {"r": ";", "c": ";", "p": ":"}


def written_change(change):
    """The change as a text, part by part."""
    need_change(change)
    return "".join([written_part(part) for part in change])


def written_part(part):
    """One part of a change as a text."""
    if part[0] == "put":
        row, column, ink, text = part[1:]
        numbers = short_numbers([row, column, ink, len(text)])
        return f"p{numbers}:{text}"
    letter = "r" if part[0] == "roll" else "c"
    numbers = short_numbers(part[1:])
    return f"{letter}{numbers};"


def short_numbers(numbers):
    """The numbers with commas between; BadChange, if one of them has too many figures."""
    if not all([abs(number) <= MOST_NUMBER for number in numbers]):
        raise BadChange("a number has more than 3 figures")
    return written_numbers(numbers)


def read_change(text):
    """The change that is written so."""
    if not isinstance(text, str):
        raise BadChange("a written change is a text")
    change = []
    at = 0
    while at < len(text):
        part, at = read_part(text, at)
        change.append(part)
    need_change(change)
    return change


def read_part(text, at):
    """The part that begins at a place of the text, which may still be none, and the place behind it."""
    letter = text[at]
    if letter not in ENDS:
        raise BadChange("no part begins so")
    end = text.find(ENDS[letter], at)
    if end < 0:
        raise BadChange("the text ends within a part")
    numbers = numbers_of(text[at + 1:end])
    if letter == "p":
        return read_put(numbers, text, end + 1)
    word = "roll" if letter == "r" else "cursor"
    return (word, *numbers), end + 1


def read_put(numbers, text, at):
    """The put with these numbers whose signs begin at a place of the text, and the place behind it."""
    if len(numbers) != 4 or numbers[3] is None:
        raise BadChange("a put has four numbers")
    row, column, ink, many = numbers
    signs = text[at:at + many]
    # A count below 0 is never met, so the place behind is never ahead of this one.
    if len(signs) != many:
        raise BadChange("the put has not as many signs as told")
    return ("put", row, column, ink, signs), at + many
