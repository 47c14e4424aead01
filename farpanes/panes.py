"""Panes: how a layout parts a face among them, and how their faces are put together."""

from farpanes.errors import BadLayout, BadName
from farpanes.faces import need_face, need_face_of_size, need_size, size_of
from farpanes.kinds import is_tuple_of, is_within

MOST_LETTERS = 8
MOST_MANY = 20
MOST_AROUND = 12

# The sign of the bars, by the way in which two layouts stand.
BARS = {"beside": "|", "below": "-"}
BAR_INK = 0


def is_name(value):
    """Tell whether the value is a name of a pane."""
    if not isinstance(value, str) or not 1 <= len(value) <= MOST_LETTERS:
        return False
    return all(["a" <= letter <= "z" for letter in value])


def need_layout(layout):
    """Raise BadLayout of whatever is no layout."""
    if not is_layout(layout, 0):
        raise BadLayout("this is no layout")
    names = names_of(layout)
    if len(set(names)) != len(names):
        raise BadLayout("a name stands twice")


def is_layout(layout, around):
    """Tell whether it is a layout, that lies in so many others, but for names that stand twice."""
    # Looked at first, so that no thing is too deep to be looked at.
    if around > MOST_AROUND or not isinstance(layout, tuple) or not layout or not isinstance(layout[0], str):
        return False
    if layout[0] == "pane":
        return is_tuple_of(layout, 2) and is_name(layout[1])
    if layout[0] not in BARS or not is_tuple_of(layout, 4) or not is_within(layout[1], 1, MOST_MANY):
        return False
    return is_layout(layout[2], around + 1) and is_layout(layout[3], around + 1)


def names_of(layout):
    """The names of a layout's panes, in the order in which they stand in it."""
    if layout[0] == "pane":
        return [layout[1]]
    return names_of(layout[2]) + names_of(layout[3])


def areas(layout, height, width):
    """Each pane's name, row, column, height and width, in the order in which they stand in the layout."""
    need_layout(layout)
    need_size(height, width)
    return areas_from(layout, 0, 0, height, width)


def areas_from(layout, row, column, height, width):
    """The areas of a layout that was looked at ahead, and has these rows and columns."""
    if height < 1 or width < 1:
        raise BadLayout("a pane has no row, or no column")
    match layout:
        case ("pane", name):
            return [(name, row, column, height, width)]
        case ("beside", many, one, other):
            # One more for the bar.
            behind = many + 1
            first = areas_from(one, row, column, height, many)
            return first + areas_from(other, row, column + behind, height, width - behind)
        case ("below", many, one, other):
            behind = many + 1
            first = areas_from(one, row, column, many, width)
            return first + areas_from(other, row + behind, column, height - behind, width)


def joined(layout, height, width, faces, name):
    """The panes' faces as one face, with the cursor of the pane with that name."""
    places = areas(layout, height, width)
    need_names(names_of(layout), faces, name)
    for place in places:
        need_face_of_size(faces[place[0]], place[3], place[4])
    corners = {place[0]: place[1:3] for place in places}
    top, left = corners[name]
    return joined_rows(layout, faces), top + faces[name][1], left + faces[name][2]


def need_names(names, faces, name):
    """Raise BadName unless there are faces by just these names, and the name is one of them."""
    if not isinstance(faces, dict) or len(faces) != len(names) or not all([pane in faces for pane in names]):
        raise BadName("the names of the faces are not those of the panes")
    if not isinstance(name, str) or name not in names:
        raise BadName("no pane has this name")


def joined_rows(layout, faces):
    """The rows of a layout that are put together of its panes' rows and bars."""
    if layout[0] == "pane":
        return faces[layout[1]][0]
    bar = (BARS[layout[0]], BAR_INK)
    one = joined_rows(layout[2], faces)
    other = joined_rows(layout[3], faces)
    if layout[0] == "below":
        return one + ((bar,) * len(one[0]),) + other
    return tuple([left + (bar,) + right for left, right in zip(one, other)])


def parted(layout, face):
    """The panes' faces by their names, as they stand in one face."""
    need_layout(layout)
    need_face(face)
    height, width = size_of(face)
    return {place[0]: face_within(face, place) for place in areas(layout, height, width)}


def face_within(face, place):
    """What of a face is in an area, with the cursor if it stands there."""
    name, top, left, height, width = place
    rows = tuple([cells[left:left + width] for cells in face[0][top:top + height]])
    row, column = face[1] - top, face[2] - left
    if 0 <= row < height and 0 <= column < width:
        return rows, row, column
    return rows, 0, 0
