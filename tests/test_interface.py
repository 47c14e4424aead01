"""The interface: all its names exist, take as many arguments as told, by place, and stand where they are told."""

import importlib
import inspect
import unittest

FUNCTIONS = {
    "faces": {"need_face": 1, "blank": 2, "fitted": 3, "shown": 1},
    "pens": {"need_deed": 1},
    "talks": {"written_talk": 1, "read_talk": 1},
    "changes": {"need_change": 1, "changed": 2, "cost": 1, "change_of": 2},
    "papers": {"written_change": 1, "read_change": 1},
    "panes": {"need_layout": 1, "areas": 3, "joined": 5, "parted": 2},
    "words": {"written_layout": 1, "read_layout": 1},
    "films": {"need_film": 1, "face_at": 2, "cost_of": 1, "filmed": 1, "cut": 3, "spliced": 2, "slowed": 2},
}

CLASSES = {
    ("pens", "Pen"): {"__init__": 2, "write": 1, "face": 0, "take": 1},
    ("talks", "Talk"): {"__init__": 0, "feed": 1},
    ("ends", "Teller"): {"__init__": 1, "show": 1, "tick": 0, "heard": 1, "is_at_rest": 0},
    ("ends", "Hearer"): {"__init__": 1, "took": 1, "face": 0, "number": 0},
    ("keys", "Typer"): {"__init__": 0, "press": 1, "tick": 0, "heard": 1, "pressed": 0},
    ("keys", "Board"): {"__init__": 0, "took": 1},
    ("guesses", "Guesser"): {"__init__": 1, "press": 1, "came": 2, "shown": 0},
    ("desks", "Desk"): {
        "__init__": 3, "split": 4, "close": 1, "swap": 2, "resize": 2, "choose": 1, "write": 2, "undo": 0, "layout": 0,
        "chosen": 0, "pane": 1, "face": 0,
    },
}


def module(name):
    return importlib.import_module(f"farpanes.{name}")


class TestInterface(unittest.TestCase):
    def takes(self, function, many):
        """It can be called with just so many arguments, by place."""
        inspect.signature(function).bind(*range(many))

    def test_functions(self):
        for name, functions in FUNCTIONS.items():
            for function, many in functions.items():
                self.takes(getattr(module(name), function), many)

    def test_classes_have_their_methods_themselves(self):
        for (name, kind), methods in CLASSES.items():
            body = vars(getattr(module(name), kind))
            for method, many in methods.items():
                self.assertIn(method, body, kind)
                self.takes(body[method], many + 1)


if __name__ == "__main__":
    unittest.main()
