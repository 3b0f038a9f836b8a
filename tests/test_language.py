"""The interface as it is listed, and the rules of the language that can be counted."""

import ast
import builtins
import importlib
import inspect
import os
import unittest

import wornstones

FOLDER = os.path.dirname(os.path.abspath(wornstones.__file__))

INTERFACE = {
    "wears": {
        "is_wear": ["thing"], "steps": ["wear", "one", "other"], "comes_to": ["wear", "sign"],
        "comes_from": ["wear", "seen"], "common": ["wear", "one", "other"], "wears_apart": ["wear", "other"],
        "cut_deeper": ["wear", "sign"], "classes": ["wear"],
    },
    "wearing": {
        "row_steps": ["wear", "text", "row"], "worn_by": ["wear", "text", "deeds"],
        "shortest_wear": ["wear", "text", "row"],
    },
    "books": {
        "is_book": ["thing"], "room_after": ["book", "text"], "is_of": ["book", "text"], "count_of": ["book", "count"],
        "nth_of": ["book", "count", "number"], "number_of": ["book", "text"], "next_of": ["book", "text"],
    },
    "bookways": {
        "books_apart": ["book", "other"], "least_book": ["book"], "both_books": ["book", "other"],
        "either_book": ["book", "other"], "shortest_of": ["book"], "lengths_of": ["book"],
    },
    "lines": {
        "wrapped": ["text", "width"], "dittoed": ["lines"], "undittoed": ["lines"], "text_of": ["lines"],
        "carved": ["text", "width"], "least_carving": ["text"], "alike_widths": ["text"], "lines_known": ["lines"],
    },
    "readings": {
        "count_readings": ["book", "wear", "row"], "readings": ["book", "wear", "row"],
        "nth_reading": ["book", "wear", "row", "number"], "reading_number": ["book", "wear", "row", "text"],
        "possible_signs": ["book", "wear", "row"], "sure_signs": ["book", "wear", "row"],
        "least_worn": ["book", "wear", "row"], "count_within": ["book", "wear", "row", "count"],
        "steps_told": ["book", "wear", "row"], "best_look": ["book", "wear", "row"],
        "sure_within": ["book", "wear", "row", "count"],
    },
    "papers": {
        "reading_paper": ["book", "wear", "row"],
        "reading_paper_holds": ["book", "wear", "row", "number", "thing"],
    },
    "alike": {
        "least_alike": ["book", "wear"], "alike_texts": ["book", "wear"],
        "alike_holds": ["book", "wear", "most", "thing"], "safe_paper": ["book", "wear"],
        "safe_paper_holds": ["book", "wear", "most", "thing"], "pairs_alike": ["book", "wear", "count", "most"],
        "row_apart": ["book", "other", "wear"],
    },
    "doubts": {
        "best_cuts": ["book", "wear"], "enough_cuts": ["book", "wear"], "first_cuts": ["book", "wear"],
        "doubt": ["book", "wear", "text"], "doubt_row": ["book", "wear", "text"], "weakest": ["book", "wear", "count"],
    },
}

# What may be imported from elsewhere.
LIBRARY = {"heapq": ["heappop", "heappush"]}

BUILTINS = """len range enumerate zip min max sum abs sorted reversed int str bool list tuple dict set isinstance ord
repr any all divmod super ValueError KeyError IndexError""".split()


def sources():
    """The files of the package, by their names, with what stands in them."""
    told = {}
    for folder, folders, files in os.walk(FOLDER):
        if "__pycache__" in folders:
            folders.remove("__pycache__")
        for name in files:
            path = os.path.join(folder, name)
            with open(path, encoding="utf-8") as file:
                told[os.path.relpath(path, FOLDER)] = file.read()
    return told


class InterfaceTest(unittest.TestCase):
    def test_names_and_arguments(self):
        for module, functions in INTERFACE.items():
            held = importlib.import_module("wornstones." + module)
            for name, arguments in functions.items():
                with self.subTest(module=module, name=name):
                    function = getattr(held, name)
                    self.assertEqual(function.__module__, "wornstones." + module)
                    self.assertEqual(list(inspect.signature(function).parameters), arguments)


class LanguageTest(unittest.TestCase):
    def test_only_python_files(self):
        for name in sources():
            self.assertTrue(name.endswith(".py"), name)

    def test_sizes_and_characters(self):
        for name, source in sources().items():
            with self.subTest(name=name):
                self.assertLessEqual(len(source.split("\n")), 400)
                self.assertLessEqual(max(len(line) for line in source.split("\n")), 120)
                self.assertEqual([sign for sign in source if sign != "\n" and not " " <= sign <= "~"], [])

    def test_sizes_of_functions(self):
        for name, source in sources().items():
            for node in ast.walk(ast.parse(source)):
                if isinstance(node, ast.FunctionDef):
                    with self.subTest(name=name, function=node.name):
                        self.assertLessEqual(node.end_lineno - node.lineno + 1, 40)
                        self.assertEqual(node.decorator_list, [])

    def test_imports(self):
        for name, source in sources().items():
            for node in ast.walk(ast.parse(source)):
                with self.subTest(name=name):
                    self.assertNotIsInstance(node, ast.Import)
                    if isinstance(node, ast.ImportFrom):
                        self.assertEqual(node.level, 0)
                        names = [alias.name for alias in node.names]
                        self.assertEqual([alias.asname for alias in node.names], [None] * len(names))
                        if node.module in LIBRARY:
                            self.assertEqual([word for word in names if word not in LIBRARY[node.module]], [])
                        else:
                            self.assertTrue(node.module.startswith("wornstones."))
                            self.check_defined(node.module, names)

    def check_defined(self, module, names):
        """Each name is imported from the very file in which it is defined."""
        source = sources()[module.split(".")[1] + ".py"]
        told = [node.name for node in ast.parse(source).body if isinstance(node, (ast.FunctionDef, ast.ClassDef))]
        for node in ast.parse(source).body:
            if isinstance(node, ast.Assign):
                told += [target.id for target in node.targets]
        self.assertEqual([name for name in names if name not in told], [])

    def test_no_files_import_each_other(self):
        needs = {}
        for name, source in sources().items():
            needs[name] = {node.module.split(".")[1] + ".py" for node in ast.walk(ast.parse(source))
                           if isinstance(node, ast.ImportFrom) and node.module not in LIBRARY}
        for _ in needs:
            needs = {name: some.union(*[needs[other] for other in some]) for name, some in needs.items()}
        for name, some in needs.items():
            self.assertNotIn(name, some)

    def test_builtins(self):
        barred = set(dir(builtins)) - set(BUILTINS)
        for name, source in sources().items():
            for node in ast.walk(ast.parse(source)):
                if isinstance(node, ast.Name):
                    with self.subTest(name=name, word=node.id):
                        self.assertNotIn(node.id, barred)

    def test_integers_alone(self):
        for name, source in sources().items():
            for node in ast.walk(ast.parse(source)):
                with self.subTest(name=name, line=getattr(node, "lineno", 0)):
                    self.assertNotIsInstance(node, ast.Div)
                    if isinstance(node, ast.Constant):
                        self.assertNotIsInstance(node.value, (float, complex))


if __name__ == "__main__":
    unittest.main()
