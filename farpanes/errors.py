"""All refusals of the program: each stands right under ScreenError."""


class ScreenError(ValueError):
    """What all refusals have in common."""


class BadFace(ScreenError):
    """What should be a face, or a size of one, is none."""


class BadDeed(ScreenError):
    """What should be a deed of a pen is none."""


class BadTalk(ScreenError):
    """A text is no talk."""


class BadChange(ScreenError):
    """What should be a change is none, or can't be done."""


class BadPacket(ScreenError):
    """What came over the road can't be taken."""


class BadLayout(ScreenError):
    """What should be a layout is none, or has no room."""


class BadName(ScreenError):
    """A name is none, is not there, or is there already."""


class BadFilm(ScreenError):
    """What should be a film, or a tick of one, is none."""


class Nothing(ScreenError):
    """There is nothing to take back."""
