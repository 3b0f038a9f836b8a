"""The interface as it is listed, and the rules of the language that can be counted."""

import ast
import builtins
import importlib
import inspect
import os
import unittest

import wornstones

FOLDER = os.path.dirname(os.path.abspath(wornstones.__file__))

INTERFACE = {
    "wears": {
        "is_wear": ["thing"], "steps": ["wear", "one", "other"], "comes_to": ["wear", "sign"],
        "comes_from": ["wear", "seen"], "common": ["wear", "one", "other"], "wears_apart": ["wear", "other"],
        "cut_deeper": ["wear", "sign"], "classes": ["wear"],
    },
    "wearing": {
        "row_steps": ["wear", "text", "row"], "worn_by": ["wear", "text", "deeds"],
        "shortest_wear": ["wear", "text", "row"],
    },
    "books": {
        "is_book": ["thing"], "room_after": ["book", "text"], "is_of": ["book", "text"], "count_of": ["book", "count"],
        "nth_of": ["book", "count", "number"], "number_of": ["book", "text"], "next_of": ["book", "text"],
    },
    "bookways": {
        "books_apart": ["book", "other"], "least_book": ["book"], "both_books": ["book", "other"],
        "either_book": ["book", "other"], "shortest_of": ["book"], "lengths_of": ["book"],
    },
    "lines": {
        "wrapped": ["text", "width"], "dittoed": ["lines"], "undittoed": ["lines"], "text_of": ["lines"],
        "carved": ["text", "width"], "least_carving": ["text"], "alike_widths": ["text"], "lines_known": ["lines"],
    },
    "readings": {
        "count_readings": ["book", "wear", "row"], "readings": ["book", "wear", "row"],
        "nth_reading": ["book", "wear", "row", "number"], "reading_number": ["book", "wear", "row", "text"],
        "possible_signs": ["book", "wear", "row"], "sure_signs": ["book", "wear", "row"],
        "least_worn": ["book", "wear", "row"], "count_within": ["book", "wear", "row", "count"],
        "steps_told": ["book", "wear", "row"], "best_look": ["book", "wear", "row"],
        "sure_within": ["book", "wear", "row", "count"],
    },
    "papers": {
        "reading_paper": ["book", "wear", "row"],
        "reading_paper_holds": ["book", "wear", "row", "number", "thing"],
    },
    "alike": {
        "least_alike": ["book", "wear"], "alike_texts": ["book", "wear"],
        "alike_holds": ["book", "wear", "most", "thing"], "safe_paper": ["book", "wear"],
        "safe_paper_holds": ["book", "wear", "most", "thing"], "pairs_alike": ["book", "wear", "count", "most"],
        "row_apart": ["book", "other", "wear"],
    },
    "doubts": {
        "best_cuts": ["book", "wear"], "enough_cuts": ["book", "wear"], "first_cuts": ["book", "wear"],
        "doubt": ["book", "wear", "text"], "doubt_row": ["book", "wear", "text"], "weakest": ["book", "wear", "count"],
    },
    "stones": {
        "stone_rows": ["stone"], "stone_counts": ["book", "wear", "stone"], "stone_widths": ["book", "wear", "stone"],
        "first_stone": ["book", "wear", "stone"], "sure_lines": ["book", "wear", "stone"],
        "least_stone": ["book", "wear", "stone"],
    },
    "pieces": {
        "all_layings": ["size", "pieces"], "layings": ["book", "wear", "size", "pieces"],
        "laying_counts": ["book", "wear", "size", "pieces"], "sure_laying": ["book", "wear", "size", "pieces"],
        "sure_page": ["book", "wear", "size", "pieces"], "telling_pieces": ["book", "wear", "size", "pieces"],
    },
    "copies": {
        "place_signs": ["wear", "column"], "place_steps": ["wear", "parents", "column", "sign"],
        "copies_count": ["book", "wear", "rows"], "copies_readings": ["book", "wear", "rows"],
        "copies_sure": ["book", "wear", "rows"], "copies_least": ["book", "wear", "parents", "rows"],
        "copies_within": ["book", "wear", "parents", "rows", "count"],
        "sign_steps": ["book", "wear", "parents", "rows", "place"], "needless_copies": ["book", "wear", "rows"],
        "best_parents": ["book", "wear", "rows"], "parents_apart": ["wear", "parents", "other"],
    },
    "looks": {
        "looks_needed": ["lot"], "look_plan": ["lot"], "plan_looks": ["lot", "thing"], "first_places": ["lot"],
        "answer_paper": ["lot", "count"], "answers_hold": ["lot", "count", "thing"], "fewest_places": ["lot"],
        "place_set": ["lot"], "looks_for": ["lot", "place"],
    },
    "years": {
        "years_sure": ["book", "wear", "text", "speed"], "guarded_years": ["book", "wear", "text", "speed", "cuts"],
        "guard_way": ["book", "wear", "text", "speed", "cuts"],
        "guard_holds": ["book", "wear", "text", "speed", "cuts", "thing"],
        "wear_way": ["book", "wear", "text", "speed", "cuts", "number"],
        "wear_holds": ["book", "wear", "text", "speed", "cuts", "number", "thing"],
    },
    "texts": {
        "show_wear": ["wear"], "show_book": ["book"], "show_row": ["row"], "read_wear": ["text"], "read_book": ["text"],
        "read_row": ["text"], "read_text": ["text"],
    },
}

CLASSES = {
    "finds": {"Finds": {
        "__init__": ["self", "book", "wear"], "find": ["self", "row", "parent"], "look": ["self", "place", "sign"],
        "undo": ["self"], "rows": ["self"], "parents": ["self"], "looks": ["self"], "count": ["self"],
        "readings": ["self"], "sure": ["self"], "least": ["self"], "needed": ["self"], "copy": ["self"],
        "try_places": ["self"], "__len__": ["self"], "__iter__": ["self"],
    }},
    "desk": {"Desk": {"__init__": ["self"], "say": ["self", "row"], "finds": ["self"]}},
}

# What may be imported from elsewhere.
LIBRARY = {"heapq": ["heappop", "heappush"]}

BUILTINS = """len range enumerate zip min max sum abs sorted reversed int str bool list tuple dict set isinstance ord
repr any all divmod super iter property ValueError KeyError IndexError""".split()


def sources():
    """The files of the package, by their names, with what stands in them."""
    told = {}
    for folder, folders, files in os.walk(FOLDER):
        if "__pycache__" in folders:
            folders.remove("__pycache__")
        for name in files:
            path = os.path.join(folder, name)
            with open(path, encoding="utf-8") as file:
                told[os.path.relpath(path, FOLDER)] = file.read()
    return told


class InterfaceTest(unittest.TestCase):
    def test_names_and_arguments(self):
        for module, functions in INTERFACE.items():
            held = importlib.import_module("wornstones." + module)
            for name, arguments in functions.items():
                with self.subTest(module=module, name=name):
                    function = getattr(held, name)
                    self.assertEqual(function.__module__, "wornstones." + module)
                    self.assertEqual(list(inspect.signature(function).parameters), arguments)

    def test_classes(self):
        for module, classes in CLASSES.items():
            held = importlib.import_module("wornstones." + module)
            for name, methods in classes.items():
                kind = getattr(held, name)
                self.assertEqual(kind.__module__, "wornstones." + module)
                for method, arguments in methods.items():
                    with self.subTest(name=name, method=method):
                        # Each one is defined in the class itself.
                        self.assertEqual(list(inspect.signature(vars(kind)[method]).parameters), arguments)


class LanguageTest(unittest.TestCase):
    def test_only_python_files(self):
        for name in sources():
            self.assertTrue(name.endswith(".py"), name)

    def test_sizes_and_characters(self):
        for name, source in sources().items():
            with self.subTest(name=name):
                self.assertLessEqual(len(source.split("\n")), 400)
                self.assertLessEqual(max(len(line) for line in source.split("\n")), 120)
                self.assertEqual([sign for sign in source if sign != "\n" and not " " <= sign <= "~"], [])

    def test_sizes_of_functions(self):
        for name, source in sources().items():
            for node in ast.walk(ast.parse(source)):
                if isinstance(node, ast.FunctionDef):
                    with self.subTest(name=name, function=node.name):
                        self.assertLessEqual(node.end_lineno - node.lineno + 1, 40)
                        self.assertIn([ast.unparse(one) for one in node.decorator_list], ([], ["property"]))

    def test_imports(self):
        for name, source in sources().items():
            for node in ast.walk(ast.parse(source)):
                with self.subTest(name=name):
                    self.assertNotIsInstance(node, ast.Import)
                    if isinstance(node, ast.ImportFrom):
                        self.assertEqual(node.level, 0)
                        names = [alias.name for alias in node.names]
                        self.assertEqual([alias.asname for alias in node.names], [None] * len(names))
                        if node.module in LIBRARY:
                            self.assertEqual([word for word in names if word not in LIBRARY[node.module]], [])
                        else:
                            self.assertTrue(node.module.startswith("wornstones."))
                            self.check_defined(node.module, names)

    def check_defined(self, module, names):
        """Each name is imported from the very file in which it is defined."""
        source = sources()[module.split(".")[1] + ".py"]
        told = [node.name for node in ast.parse(source).body if isinstance(node, (ast.FunctionDef, ast.ClassDef))]
        for node in ast.parse(source).body:
            if isinstance(node, ast.Assign):
                told += [target.id for target in node.targets]
        self.assertEqual([name for name in names if name not in told], [])

    def test_no_files_import_each_other(self):
        needs = {}
        for name, source in sources().items():
            needs[name] = {node.module.split(".")[1] + ".py" for node in ast.walk(ast.parse(source))
                           if isinstance(node, ast.ImportFrom) and node.module not in LIBRARY}
        for _ in needs:
            needs = {name: some.union(*[needs[other] for other in some]) for name, some in needs.items()}
        for name, some in needs.items():
            self.assertNotIn(name, some)

    def test_builtins(self):
        barred = set(dir(builtins)) - set(BUILTINS)
        for name, source in sources().items():
            for node in ast.walk(ast.parse(source)):
                if isinstance(node, ast.Name):
                    with self.subTest(name=name, word=node.id):
                        self.assertNotIn(node.id, barred)

    def test_statements(self):
        # A class is compared and iterated over, so all lists are made ahead of any, all, sum and the like.
        barred = (ast.GeneratorExp, ast.Yield, ast.YieldFrom, ast.Lambda, ast.With, ast.Global, ast.Nonlocal, ast.Try)
        for name, source in sources().items():
            for node in ast.walk(ast.parse(source)):
                with self.subTest(name=name, line=getattr(node, "lineno", 0)):
                    self.assertNotIsInstance(node, barred)

    def test_no_name_of_an_import_is_bound_again(self):
        for name, source in sources().items():
            tree = ast.parse(source)
            taken = [alias.name for node in ast.walk(tree) if isinstance(node, ast.ImportFrom) for alias in node.names]
            taken += [node.name for node in tree.body if isinstance(node, ast.ClassDef)]
            bound = [node.arg for node in ast.walk(tree) if isinstance(node, ast.arg)]
            bound += [node.id for node in ast.walk(tree) if isinstance(node, ast.Name) and isinstance(node.ctx, ast.Store)]
            bound += [node.name for node in ast.walk(tree) if isinstance(node, ast.FunctionDef)]
            used = {node.id for node in ast.walk(tree) if isinstance(node, ast.Name)}
            with self.subTest(name=name):
                self.assertEqual(sorted(set(taken) & set(bound)), [])
                self.assertEqual(sorted(set(taken) - used - {node.name for node in tree.body
                                                             if isinstance(node, ast.ClassDef)}), [])

    def test_integers_alone(self):
        for name, source in sources().items():
            for node in ast.walk(ast.parse(source)):
                with self.subTest(name=name, line=getattr(node, "lineno", 0)):
                    self.assertNotIsInstance(node, ast.Div)
                    if isinstance(node, ast.Constant):
                        self.assertNotIsInstance(node.value, (float, complex))


if __name__ == "__main__":
    unittest.main()
