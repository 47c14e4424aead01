"""Talks: deeds written as a text, and read again, all at once or piece by piece."""

from farpanes.errors import BadTalk
from farpanes.figures import numbers_of, written_numbers
from farpanes.pens import MOST_SAID, is_deed, need_deeds

# A go with two numbers of two figures is the longest deed with numbers: so many signs ahead of its end.
MOST_KEPT = 7

MARKED = {
    "^^": ("say", "^"),
    "^n": ("line",),
    "^h": ("home",),
    "^b": ("back",),
    "^wr": ("wipe", "row"),
    "^wt": ("wipe", "rest"),
    "^wa": ("wipe", "all"),
}

NUMBERED = {
    "g": "go",
    "i": "ink",
    "s": "roll",
    "o": "open",
    "c": "cut",
    "m": "more",
    "l": "less",
}


def written_talk(deeds):
    """The deeds as a text, one behind the other."""
    need_deeds(deeds)
    return "".join([written_deed(deed) for deed in deeds])


def written_deed(deed):
    """One deed as a text."""
    if deed[0] == "say":
        return deed[1].replace("^", "^^")
    for text in MARKED:
        if MARKED[text] == deed:
            return text
    letter = letter_of(deed[0])
    numbers = written_numbers(deed[1:])
    return f"^{letter}{numbers};"


def letter_of(word):
    """The letter of a deed with numbers."""
    return "".join([letter for letter in NUMBERED if NUMBERED[letter] == word])


def read_talk(text):
    """The deeds of a talk."""
    deeds, rest = read_whole(text)
    if rest:
        raise BadTalk("the talk ends within a deed")
    return deeds


def read_whole(text):
    """The deeds that are whole, and the rest of the text, which is to be kept; BadTalk of what is neither."""
    if not isinstance(text, str):
        raise BadTalk("a talk is a text")
    deeds = []
    at = 0
    while at < len(text):
        end = end_of_deed(text, at)
        if end is None:
            return deeds, text[at:]
        add_deed(deeds, deed_of(text[at:end]))
        at = end
    return deeds, ""


def end_of_deed(text, at):
    """Where the deed that begins at a place ends, None if it isn't whole yet; a sign said is one by itself."""
    if text[at] != "^":
        return at + 1
    letter = text[at + 1:at + 2]
    if letter in NUMBERED:
        return end_of_numbered(text, at)
    end = at + 3 if letter == "w" else at + 2
    return end if end <= len(text) else None


def end_of_numbered(text, at):
    """Where the deed with numbers that begins at a place ends, None if it isn't whole yet."""
    last = text.find(";", at, at + MOST_KEPT + 1)
    if last >= 0:
        return last + 1
    if len(text) - at > MOST_KEPT:
        raise BadTalk("a deed with numbers is too long")
    return None


def deed_of(text):
    """The deed that is written so."""
    if text in MARKED:
        return MARKED[text]
    deed = ("say", text)
    if text[0] == "^":
        numbers = numbers_of(text[2:-1])
        deed = (NUMBERED.get(text[1]), *numbers)
    if not is_deed(deed):
        raise BadTalk("no deed is written so")
    return deed


def add_deed(deeds, deed):
    """Add a deed to a list of them, signs that are said side by side as one deed."""
    if deed[0] == "say" and deeds and deeds[-1][0] == "say" and len(deeds[-1][1]) < MOST_SAID:
        deeds[-1] = ("say", deeds[-1][1] + deed[1])
    else:
        deeds.append(deed)


class Talk:
    """A talk that comes in pieces, cut anywhere."""

    def __init__(self):
        self.kept = ""
        self.is_broken = False

    def feed(self, text):
        """The deeds that are whole with this piece and were not told."""
        if self.is_broken:
            raise BadTalk("an earlier piece was no part of a talk")
        if not isinstance(text, str):
            raise BadTalk("a piece of a talk is a text")
        try:
            deeds, self.kept = read_whole(self.kept + text)
        except BadTalk:
            self.is_broken = True
            raise
        return deeds
