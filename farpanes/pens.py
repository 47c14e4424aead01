"""Pens: deeds, and what does them on rows of cells."""

from farpanes.errors import BadDeed
from farpanes.faces import BLANK, blank, blank_cells, need_face_of_size
from farpanes.kinds import are_signs, is_within

MOST_SAID = 200
BARE_WORDS = ("line", "home", "back")
WIPED_PARTS = ("row", "rest", "all")

# For each deed with numbers, the least and the greatest of each number.
LIMITS = {
    "go": ((0, 99), (0, 99)),
    "ink": ((0, 7),),
    "roll": ((-99, 99),),
    "open": ((0, 99),),
    "cut": ((0, 99),),
    "more": ((0, 99),),
    "less": ((0, 99),),
}


def need_deed(deed):
    """Raise BadDeed of whatever is no deed."""
    if not is_deed(deed):
        raise BadDeed("this is no deed of a pen")


def need_deeds(deeds):
    """Raise BadDeed of whatever is no list of deeds."""
    if not isinstance(deeds, list):
        raise BadDeed("deeds come as a list")
    for deed in deeds:
        need_deed(deed)


def is_deed(deed):
    """Tell whether it is a deed."""
    if not isinstance(deed, tuple) or not deed or not isinstance(deed[0], str):
        return False
    word, told = deed[0], deed[1:]
    if word in BARE_WORDS:
        return not told
    if word in LIMITS:
        return are_numbers_within(told, LIMITS[word])
    if len(told) != 1 or not isinstance(told[0], str):
        return False
    if word == "say":
        return 1 <= len(told[0]) <= MOST_SAID and are_signs(told[0])
    return word == "wipe" and told[0] in WIPED_PARTS


def are_numbers_within(numbers, limits):
    """Tell whether there are as many numbers as limits, each within its own."""
    if len(numbers) != len(limits):
        return False
    return all([is_within(number, least, most) for number, (least, most) in zip(numbers, limits)])


def pushed(things, at, many, new):
    """A tuple as long as the things: new ones come in at a place, the others go on, the last out."""
    return (things[:at] + (new,) * many + things[at:])[:len(things)]


def pulled(things, at, many, new):
    """A tuple as long as the things: those at a place are gone, the others come up, new ones behind."""
    left = things[:at] + things[at + many:]
    return left + (new,) * (len(things) - len(left))


def rolled(rows, by):
    """The rows gone up by so many, or down, if it is below 0."""
    new = blank_cells(len(rows[0]))
    if by < 0:
        return pushed(rows, 0, -by, new)
    return pulled(rows, 0, by, new)


class Pen:
    """Rows of cells, a cursor that may stand behind the last column, and an ink."""

    def __init__(self, height, width):
        self.rows, self.row, self.column = blank(height, width)
        self.height = height
        self.width = width
        self.ink = 0

    def write(self, deeds):
        """Do all the deeds in turn, or none of them."""
        need_deeds(deeds)
        for deed in deeds:
            self.do(deed)

    def face(self):
        """The face as it is now."""
        return self.rows, self.row, self.place()

    def take(self, face):
        """Go on from the cells and the cursor of a face of this size."""
        need_face_of_size(face, self.height, self.width)
        self.rows, self.row, self.column = face

    def do(self, deed):
        """Do one deed, which was looked at ahead."""
        match deed:
            case ("say", text):
                for sign in text:
                    self.say(sign)
            case ("line",):
                self.down()
            case ("home",):
                self.column = 0
            case ("back",):
                self.column = max(0, self.place() - 1)
            case ("go", row, column):
                self.row = min(row, self.height - 1)
                self.column = min(column, self.width - 1)
            case ("ink", ink):
                self.ink = ink
            case ("wipe", which):
                self.wipe(which)
            case ("roll", by):
                self.rows = rolled(self.rows, by)
            case ("open", many):
                self.put_cells(pushed(self.cells(), self.place(), many, BLANK))
            case ("cut", many):
                self.put_cells(pulled(self.cells(), self.place(), many, BLANK))
            case ("more", many):
                self.rows = pushed(self.rows, self.row, many, blank_cells(self.width))
            case ("less", many):
                self.rows = pulled(self.rows, self.row, many, blank_cells(self.width))

    def place(self):
        """The column of the cursor, the last one if it stands behind that."""
        return min(self.column, self.width - 1)

    def cells(self):
        """The cells of the cursor's row."""
        return self.rows[self.row]

    def put_cells(self, cells):
        """Put other cells in the cursor's row."""
        self.rows = self.rows[:self.row] + (cells,) + self.rows[self.row + 1:]

    def say(self, sign):
        """Put one sign at the cursor, which goes on."""
        if self.column == self.width:
            self.column = 0
            self.down()
        cells = self.cells()
        self.put_cells(cells[:self.column] + ((sign, self.ink),) + cells[self.column + 1:])
        self.column += 1

    def down(self):
        """Go to the next row, or roll all rows up in the last one."""
        if self.row < self.height - 1:
            self.row += 1
        else:
            self.rows = rolled(self.rows, 1)

    def wipe(self, which):
        """Make the cells blank: of the row, of the rest of it, or all."""
        if which == "all":
            self.rows = (blank_cells(self.width),) * self.height
            return
        first = self.place() if which == "rest" else 0
        self.put_cells(self.cells()[:first] + blank_cells(self.width - first))
