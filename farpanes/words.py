"""Layouts written in words, and read again."""

from farpanes.errors import BadLayout
from farpanes.figures import number_of
from farpanes.panes import BARS, MOST_AROUND, need_layout


def written_layout(layout):
    """The layout in words, with a blank between two."""
    need_layout(layout)
    return " ".join(words_of(layout))


def words_of(layout):
    """The words of a layout that was looked at ahead."""
    if layout[0] == "pane":
        return list(layout)
    way, many, one, other = layout
    return [way, str(many)] + words_of(one) + words_of(other)


def read_layout(text):
    """The layout that is written so."""
    if not isinstance(text, str):
        raise BadLayout("a written layout is a text")
    words = text.split(" ")
    layout, end = read_words(words, 0, 0)
    if end != len(words):
        raise BadLayout("there are words behind the layout")
    need_layout(layout)
    return layout


def read_words(words, at, around):
    """The layout whose words begin at a place and that lies in so many others, and the place behind it."""
    # Names and numbers are looked at when all is read, but a text may be deeper than Python can go.
    if around > MOST_AROUND:
        raise BadLayout("the layout is too deep")
    way, told = word_at(words, at), word_at(words, at + 1)
    if way == "pane":
        return (way, told), at + 2
    if way not in BARS:
        raise BadLayout("no layout begins with this word")
    one, behind = read_words(words, at + 2, around + 1)
    other, end = read_words(words, behind, around + 1)
    return (way, number_of(told), one, other), end


def word_at(words, at):
    """The word at a place."""
    if at >= len(words):
        raise BadLayout("a word is lacking")
    return words[at]
