"""The examples of the document's interface, as they stand there."""

import importlib
import pathlib
import unittest

MODULES = ["errors", "names", "rows", "journals", "statements", "orders", "ladders", "matching", "clearing", "auctions",
           "pools", "both", "lots", "gains", "positions", "cover", "closing", "waterfall", "shares", "dues", "greatest",
           "rounds", "strikes", "bundles", "helping", "handing", "facts", "telling", "run", "market", "final", "sight",
           "console"]
SECTIONS = {"rows": 4, "journals": 5, "statements": 5, "orders": 3, "ladders": 4, "matching": 5, "clearing": 7,
            "auctions": 8, "pools": 4, "both": 4, "lots": 5, "gains": 4, "positions": 3, "cover": 6, "closing": 4,
            "waterfall": 1, "shares": 3, "dues": 3, "rounds": 4, "strikes": 2, "bundles": 1, "helping": 2, "handing": 1,
            "telling": 4, "run": 5, "market": 5, "final": 5, "sight": 7, "console": 7}


def sections():
    """The dict from the names of modules to lists of tuples (statement, what follows)."""
    found = {}
    text = pathlib.Path(__file__).with_name("examples.txt").read_text()
    for line in text.splitlines():
        if line.startswith("# "):
            steps = found[line[2:]] = []
        elif line.startswith(">>> "):
            steps.append((line[4:], []))
        elif line:
            steps[-1][1].append(line)
    return found


def names_of_package(section):
    """Everything that the modules define, and nothing that they import; what the section's module defines counts."""
    space = {}
    for module in MODULES + [section]:
        for name, value in vars(importlib.import_module("evenmarket." + module)).items():
            if getattr(value, "__module__", None) == "evenmarket." + module:
                space[name] = value
    return space


def outcome(statement, space):
    """The lines that the document would write below a statement."""
    try:
        try:
            code = compile(statement, "example", "eval")
        except SyntaxError:
            exec(statement, space)
            return []
        value = eval(code, space)
    except ValueError as error:
        return ["raises " + type(error).__name__ + "(" + ", ".join(map(repr, vars(error).values())) + ")"]
    return [] if value is None else [repr(value)]


class Examples(unittest.TestCase):

    def test_all_are_there(self):
        self.assertEqual({name: len(steps) for name, steps in sections().items()}, SECTIONS)

    def test_each_one(self):
        made = {}
        for name, steps in sections().items():
            package = names_of_package(name)
            # What an earlier section has made stands in those behind it, too.
            space = {**made, **package}
            for statement, follows in steps:
                with self.subTest(section=name, statement=statement):
                    self.assertEqual(outcome(statement, space), follows)
            made.update((key, value) for key, value in space.items() if package.get(key) is not value)


if __name__ == "__main__":
    unittest.main()
