"""Desks: panes with pens, which are split, closed and exchanged, deed by deed, and back."""

from farpanes.errors import BadName, Nothing
from farpanes.faces import fitted
from farpanes.panes import areas, is_name, joined, names_of
from farpanes.pens import Pen


def with_part(layout, part, new):
    """The layout with another layout in the place of one part of it."""
    if layout == part:
        return new
    if layout[0] == "pane":
        return layout
    way, many, one, other = layout
    return way, many, with_part(one, part, new), with_part(other, part, new)


def around_pane(layout, pane):
    """The beside or below right around a pane, None if there is none in the layout."""
    if layout[0] == "pane":
        return None
    one, other = layout[2:]
    if pane in (one, other):
        return layout
    return around_pane(one, pane) or around_pane(other, pane)


def with_names(layout, names):
    """The layout with other names for those panes that have one in the dict."""
    if layout[0] == "pane":
        return "pane", names.get(layout[1], layout[1])
    way, many, one, other = layout
    return way, many, with_names(one, names), with_names(other, names)


def pen_like(pen):
    """Another pen with all that a pen has."""
    new = Pen(pen.height, pen.width)
    new.rows = pen.rows
    new.row = pen.row
    new.column = pen.column
    new.ink = pen.ink
    return new


def pen_of_size(pen, height, width):
    """The pen itself, if it has that size, else another one that goes on from its face."""
    if (pen.height, pen.width) == (height, width):
        return pen
    new = Pen(height, width)
    new.take(fitted(pen.face(), height, width))
    new.ink = pen.ink
    return new


def pens_for(places, pens):
    """Pens by names for these areas: those there are, fitted, and new ones."""
    fitting = {}
    for name, row, column, height, width in places:
        fitting[name] = pen_of_size(pens[name], height, width) if name in pens else Pen(height, width)
    return fitting


class Desk:
    """A size, a layout, pens by names and a chosen name; and the same, as they were ahead of each deed."""

    # Pens and the dict of them are never changed, only put in place of others: so what is past stays as it was.

    def __init__(self, height, width, name):
        if not is_name(name):
            raise BadName("this is no name of a pane")
        self.pens = {name: Pen(height, width)}
        self.height = height
        self.width = width
        self.plan = ("pane", name)
        self.choice = name
        self.past = []

    def split(self, name, way, many, new):
        """Make a beside or a below of a pane and a new one."""
        self.need_pane(name)
        if not is_name(new) or new in self.pens:
            raise BadName("the new name is none, or is there")
        pane = ("pane", name)
        self.lay(with_part(self.plan, pane, (way, many, pane, ("pane", new))), self.choice)

    def close(self, name):
        """Put the layout that stands with a pane in the place of both."""
        self.need_pane(name)
        pane = ("pane", name)
        around = around_pane(self.plan, pane)
        if around is None:
            raise BadName("the only pane is not closed")
        left = around[3] if around[2] == pane else around[2]
        choice = names_of(left)[0] if self.choice == name else self.choice
        self.lay(with_part(self.plan, around, left), choice)

    def swap(self, one, other):
        """Put two panes each where the other one stands."""
        self.need_pane(one)
        self.need_pane(other)
        self.lay(with_names(self.plan, {one: other, other: one}), self.choice)

    def resize(self, height, width):
        """Have another size."""
        places = areas(self.plan, height, width)
        self.keep()
        self.height = height
        self.width = width
        self.pens = pens_for(places, self.pens)

    def choose(self, name):
        """Choose a pane."""
        self.need_pane(name)
        self.lay(self.plan, name)

    def write(self, name, deeds):
        """Let a pane's pen do a list of deeds."""
        self.need_pane(name)
        pen = pen_like(self.pens[name])
        pen.write(deeds)
        self.keep()
        self.pens = {**self.pens, name: pen}

    def undo(self):
        """Take back the last deed that was not taken back."""
        if not self.past:
            raise Nothing("there is no deed to take back")
        self.height, self.width, self.plan, self.choice, self.pens = self.past.pop()

    def layout(self):
        """The layout as it is now."""
        return self.plan

    def chosen(self):
        """The name of the chosen pane."""
        return self.choice

    def pane(self, name):
        """The face of a pane."""
        self.need_pane(name)
        return self.pens[name].face()

    def face(self):
        """All panes' faces as one face, with the chosen one's cursor."""
        faces = {name: pen.face() for name, pen in self.pens.items()}
        return joined(self.plan, self.height, self.width, faces, self.choice)

    def need_pane(self, name):
        """Raise BadName unless a pane has this name."""
        if not isinstance(name, str) or name not in self.pens:
            raise BadName("no pane has this name")

    def lay(self, plan, choice):
        """Have another layout and a chosen pane; BadLayout, and nothing is changed, if that can't be."""
        places = areas(plan, self.height, self.width)
        self.keep()
        self.plan = plan
        self.choice = choice
        self.pens = pens_for(places, self.pens)

    def keep(self):
        """Keep what is now, for undo."""
        self.past.append((self.height, self.width, self.plan, self.choice, self.pens))
