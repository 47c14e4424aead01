"""Changes: what leads from one face to another, and what it costs."""

from farpanes.errors import BadChange
from farpanes.faces import MOST_INK, need_face, need_face_like
from farpanes.kinds import are_signs, is_whole, is_within
from farpanes.pens import rolled

MOST_ROLL = 10
ROLL_COST = 4
PUT_COST = 4
CURSOR_COST = 3


def need_change(change):
    """Raise BadChange of whatever is no change."""
    if not isinstance(change, list):
        raise BadChange("a change is a list")
    for part in change:
        if not is_part(part):
            raise BadChange("this is no part of a change")


def is_part(part):
    """Tell whether it is a part of a change."""
    if not isinstance(part, tuple) or not part or not isinstance(part[0], str):
        return False
    match part:
        case ("roll", by):
            return is_within(by, -MOST_ROLL, MOST_ROLL) and by != 0
        case ("put", row, column, ink, text):
            return is_place(row, column) and is_within(ink, 0, MOST_INK) and are_signs(text) and text != ""
        case ("cursor", row, column):
            return is_place(row, column)
    return False


def is_place(row, column):
    """Tell whether these are a row and a column that some face might have."""
    return is_whole(row) and row >= 0 and is_whole(column) and column >= 0


def changed(face, change):
    """The face with all parts of the change done, in turn."""
    need_face(face)
    need_change(change)
    return parts_done(face, change)


def parts_done(face, change):
    """The face with all parts done of a change that was looked at ahead; BadChange where it has no such place."""
    now = face
    for part in change:
        now = part_done(now, part)
    return now


def part_done(face, part):
    """The face with one part of a change done."""
    rows, row, column = face
    match part:
        case ("roll", by):
            return rolled(rows, by), row, column
        case ("put", at_row, at_column, ink, text):
            need_places(rows, at_row, at_column, len(text))
            return with_put(rows, at_row, at_column, cells_of(text, ink)), row, column
        case ("cursor", to_row, to_column):
            need_places(rows, to_row, to_column, 1)
            return rows, to_row, to_column


def need_places(rows, row, column, many):
    """Raise BadChange unless the row has so many cells from the column on."""
    if row >= len(rows):
        raise BadChange("the face has no such row")
    if column + many > len(rows[0]):
        raise BadChange("the face has no such column")


def cells_of(text, ink):
    """The signs of a text as cells with one ink."""
    return tuple([(sign, ink) for sign in text])


def with_put(rows, row, column, new):
    """The rows with new cells in one row, from a column on."""
    cells = rows[row]
    put = cells[:column] + new + cells[column + len(new):]
    return rows[:row] + (put,) + rows[row + 1:]


def cost(change):
    """What all parts of the change cost together."""
    need_change(change)
    return cost_of_parts(change)


def cost_of_parts(change):
    """The cost of a change that was looked at ahead."""
    return sum([part_cost(part) for part in change])


def part_cost(part):
    """What one part of a change costs."""
    if part[0] == "roll":
        return ROLL_COST
    if part[0] == "cursor":
        return CURSOR_COST
    return PUT_COST + len(part[-1])


def change_of(one, other):
    """A change from one face to another of its size; none of its kind costs less."""
    need_face(one)
    need_face_like(other, one)
    height = len(one[0])
    # A roll by all rows leaves only blanks, be it up or down, and so does each greater one.
    # Sorted so, the least roll is told of those that cost the same.
    rolls = sorted(range(1 - height, height + 1), key=abs)
    return min([change_with_roll(one, other, by) for by in rolls], key=cost_of_parts)


def change_with_roll(one, other, by):
    """The change of least cost of those with this roll, or with none, if it is 0."""
    change = [("roll", by)] if by != 0 else []
    for row, (old, new) in enumerate(zip(rolled(one[0], by), other[0])):
        change.extend([put_of(row, first, last, new) for first, last in spans_to_put(old, new)])
    if one[1:] != other[1:]:
        change.append(("cursor", other[1], other[2]))
    return change


def put_of(row, first, last, cells):
    """The put of a row's cells, from the first column to the last."""
    text = "".join([cell[0] for cell in cells[first:last + 1]])
    return ("put", row, first, cells[first][1], text)


def spans_to_put(old, new):
    """The first and last columns of the puts that lead from a row's old cells to the new ones, at least cost."""
    spans = []
    unlike = [column for column in range(len(new)) if old[column] != new[column]]
    # Each put of least cost begins and ends with a cell that must be put, so only the gaps between these
    # are to be looked at, each by itself.
    for column in unlike:
        if spans and is_worth_joining(new, spans[-1][1], column):
            spans[-1] = (spans[-1][0], column)
        else:
            spans.append((column, column))
    return spans


def is_worth_joining(cells, last, column):
    """Tell whether a put can go on from its last column up to this one, for less than another put costs."""
    inks = [cell[1] for cell in cells[last:column + 1]]
    return column - last - 1 < PUT_COST and inks.count(inks[0]) == len(inks)
