"""The rule of the language that what a loop walks is not changed in it, nor added to itself (L23, L5 Iteration)."""

import ast
import unittest

from tests.test_language import sources

CHANGES = """add append clear discard extend insert pop remove reverse setdefault sort update""".split()
HEAPS = ["heapify", "heappop", "heappush"]
COMPREHENSIONS = (ast.ListComp, ast.SetComp, ast.DictComp)


def roots(node):
    """The names from which a value may be taken by a name, an attribute, an item or a choice."""
    if isinstance(node, ast.Name):
        return {node.id}
    if isinstance(node, ast.Subscript) and isinstance(node.slice, ast.Slice):
        # A slice is new.
        return set()
    if isinstance(node, (ast.Attribute, ast.Subscript, ast.Starred)):
        return roots(node.value)
    if isinstance(node, ast.IfExp):
        return roots(node.body) | roots(node.orelse)
    if isinstance(node, ast.BoolOp):
        return roots_of_all(node.values)
    if isinstance(node, ast.Call) and isinstance(node.func, ast.Name):
        return roots_of_all(node.args) if node.func.id in ("enumerate", "zip", "reversed") else set()
    if isinstance(node, ast.Call) and isinstance(node.func, ast.Attribute):
        return roots(node.func.value) if node.func.attr in ("items", "keys", "values", "get") else set()
    return set()


def roots_of_all(nodes):
    """The names from which one of some values may be taken."""
    return {name for node in nodes for name in roots(node)}


def names_alike(function):
    """A dict of the names of a function, with one name for all those that assignments make one."""
    alike = {node.id: node.id for node in ast.walk(function) if isinstance(node, ast.Name)}
    for node in ast.walk(function):
        if isinstance(node, ast.Assign):
            some = {name.id for target in node.targets for name in ast.walk(target)
                    if isinstance(name, ast.Name) and isinstance(name.ctx, ast.Store)}
            values = node.value.elts if isinstance(node.value, ast.Tuple) else [node.value]
            for other in roots_of_all(values):
                joined = {alike[name] for name in some}
                alike = {name: alike[other] if held in joined else held for name, held in alike.items()}
    return alike


def changed(node):
    """The names of what a node changes by itself."""
    if isinstance(node, ast.Call) and isinstance(node.func, ast.Attribute) and node.func.attr in CHANGES:
        return roots(node.func.value)
    if isinstance(node, ast.Call) and isinstance(node.func, ast.Name) and node.func.id in HEAPS:
        return roots(node.args[0])
    if isinstance(node, ast.AugAssign):
        return roots(node.target)
    if isinstance(node, (ast.Assign, ast.Delete)):
        # An item or a slice that is assigned changes what it is one of, a plain name does not.
        return {name for target in node.targets for some in ast.walk(target) if isinstance(some, ast.Subscript)
                and isinstance(some.ctx, (ast.Store, ast.Del)) for name in roots(some.value)}
    return set()


def walked(node):
    """The names of what a loop or a comprehension walks."""
    if isinstance(node, ast.For):
        return roots(node.iter)
    if isinstance(node, COMPREHENSIONS):
        return roots_of_all([part.iter for part in node.generators])
    return set()


def added(node):
    """A tuple of the names of what a node adds to, and of those of what it adds."""
    if isinstance(node, ast.AugAssign):
        return (roots(node.target), roots(node.value))
    if isinstance(node, ast.Call) and isinstance(node.func, ast.Attribute) and node.func.attr in ("extend", "update"):
        return (roots(node.func.value), roots_of_all(node.args))
    return (set(), set())


def functions_of(source):
    """The functions and methods of a source."""
    return [node for node in ast.walk(ast.parse(source)) if isinstance(node, ast.FunctionDef)]


def rows_changed(source):
    """The list of the rows, ascending, that change what a loop or a comprehension around them walks."""
    found = set()
    for function in functions_of(source):
        alike = names_alike(function)
        for loop in ast.walk(function):
            held = {alike[name] for name in walked(loop)}
            # What stands behind `else` runs when nothing is walked any more, but is held to the rule as well.
            found |= {node.lineno for node in ast.walk(loop) if held & {alike[name] for name in changed(node)}}
    return sorted(found)


def rows_added(source):
    """The list of the rows, ascending, that add to something what is taken out of it."""
    found = set()
    for function in functions_of(source):
        alike = names_alike(function)
        for node in ast.walk(function):
            one, other = added(node)
            if {alike[name] for name in one} & {alike[name] for name in other}:
                found.add(node.lineno)
    return sorted(found)


class WalksTest(unittest.TestCase):
    def test_nothing_that_is_walked_is_changed(self):
        for name, source in sources().items():
            with self.subTest(name=name):
                self.assertEqual(rows_changed(source), [])

    def test_nothing_is_added_to_itself(self):
        for name, source in sources().items():
            with self.subTest(name=name):
                self.assertEqual(rows_added(source), [])


class CheckTest(unittest.TestCase):
    """The two checks find what they look for, and nothing else."""

    def check(self, rows, changing=(), adding=()):
        source = "\n".join(["def told(some, table, k):"] + ["    " + row for row in rows])
        self.assertEqual(rows_changed(source), list(changing))
        self.assertEqual(rows_added(source), list(adding))

    def test_waves(self):
        rows = ["wave = list(some)", "while wave:", "    further = []", "    for one in wave:",
                "        further.append(one)", "    wave = further"]
        self.check(rows, [6])
        self.check([row.replace("in wave", "in list(wave)") for row in rows])
        self.check([row.replace("append(one)", "extend([one])") for row in rows], [6])

    def test_tables(self):
        rows = ["ahead = {0: 1}", "for one in some:", "    after = {}", "    for room, many in ahead.items():",
                "        after[room] = many", "    ahead = after"]
        self.check(rows, [6])
        self.check([row.replace("ahead.items()", "list(ahead.items())") for row in rows])

    def test_names_items_and_choices(self):
        self.check(["for one in some:", "    some.pop()"], [3])
        self.check(["for one in table[k]:", "    table[k].append(one)"], [3])
        self.check(["for one in some or table:", "    table.append(one)"], [3])
        self.check(["for at, one in enumerate(some):", "    some[at] = one"], [3])
        self.check(["held = some if k else table", "for one in held:", "    del some[0]"], [4])
        self.check(["for one in some:", "    some += [one]"], [3])
        self.check(["return [some.pop() for one in some]"], [2])
        self.check(["for one in some:", "    table.append(one)", "some.append(k)"])
        self.check(["for one in some[1:]:", "    some.append(one)"])

    def test_what_is_added(self):
        self.check(["row = ''", "row += row[k] if k else some"], [], [3])
        self.check(["row = ''", "one = row[k]", "row += one"], [], [4])
        self.check(["row = ''", "row = row + (row[k] if k else some)"])
        self.check(["some.extend(some)"], [], [2])
        self.check(["some.extend(list(some))", "some += table[k]"])


if __name__ == "__main__":
    unittest.main()
