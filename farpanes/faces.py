"""Faces: rows of cells, and where the cursor stands in them."""

from farpanes.errors import BadFace
from farpanes.kinds import is_sign, is_tuple_of, is_within

MOST_ROWS = 10
MOST_COLUMNS = 20
MOST_INK = 7
BLANK = (" ", 0)


def need_face(face):
    """Raise BadFace of whatever is no face."""
    if not is_tuple_of(face, 3):
        raise BadFace("a face is a triple")
    rows, row, column = face
    need_rows(rows)
    if not is_within(row, 0, len(rows) - 1):
        raise BadFace("the cursor's row is not in the face")
    if not is_within(column, 0, len(rows[0]) - 1):
        raise BadFace("the cursor's column is not in the face")


def need_rows(rows):
    """Raise BadFace of whatever are no rows of a face."""
    if not isinstance(rows, tuple) or not all([isinstance(cells, tuple) for cells in rows]):
        raise BadFace("rows are a tuple of tuples")
    if not rows:
        raise BadFace("a face has a row at least")
    need_size(len(rows), len(rows[0]))
    for cells in rows:
        if len(cells) != len(rows[0]):
            raise BadFace("all rows have one width")
        if not all([is_cell(cell) for cell in cells]):
            raise BadFace("a cell is a pair of a sign and an ink")


def is_cell(cell):
    """Tell whether it is a cell."""
    return is_tuple_of(cell, 2) and is_sign(cell[0]) and is_within(cell[1], 0, MOST_INK)


def need_size(height, width):
    """Raise BadFace of a size that no face can have."""
    if not is_within(height, 1, MOST_ROWS):
        raise BadFace("a face has 1 to 10 rows")
    if not is_within(width, 1, MOST_COLUMNS):
        raise BadFace("a face has 1 to 20 columns")


def need_face_of_size(face, height, width):
    """Raise BadFace of whatever is no face of that size."""
    need_face(face)
    rows = face[0]
    if len(rows) != height or len(rows[0]) != width:
        raise BadFace("the face has another size")


def size_of(face):
    """The height and the width of a face."""
    return len(face[0]), len(face[0][0])


def need_face_like(face, other):
    """Raise BadFace of whatever is no face of another one's size."""
    height, width = size_of(other)
    need_face_of_size(face, height, width)


def blank_cells(width):
    """So many blank cells side by side."""
    return (BLANK,) * width


def blank(height, width):
    """A face of blanks."""
    need_size(height, width)
    return (blank_cells(width),) * height, 0, 0


def fitted(face, height, width):
    """The face brought to another size, from the top and the left."""
    need_face(face)
    need_size(height, width)
    rows, row, column = face
    kept = tuple([fitted_cells(cells, width) for cells in rows[:height]])
    added = (blank_cells(width),) * (height - len(kept))
    return kept + added, min(row, height - 1), min(column, width - 1)


def fitted_cells(cells, width):
    """The cells of a row brought to another width, from the left."""
    kept = cells[:width]
    return kept + blank_cells(width - len(kept))


def shown(face):
    """The rows' signs as texts."""
    need_face(face)
    return ["".join([cell[0] for cell in cells]) for cells in face[0]]
