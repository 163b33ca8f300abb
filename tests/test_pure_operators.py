"""What operators and properties run changes nothing but what it has made itself, as far as its text shows."""

import ast
import unittest

from tests.test_language import MAGIC, TREES

CHANGING = {"append", "extend", "insert", "pop", "remove", "clear", "update", "setdefault", "reverse", "sort", "add",
            "discard"}
HEAPS = {"heappush", "heappop", "heapify", "heapreplace", "heappushpop"}
OPERATORS = MAGIC - {"__init__", "__call__", "__iter__", "__enter__", "__exit__", "__setitem__"}


def defined():
    """Functions by names, methods by names, and the constructors of classes."""
    functions, methods, classes = {}, {}, {}
    for tree in TREES.values():
        for node in tree.body:
            if isinstance(node, ast.FunctionDef):
                functions.setdefault(node.name, []).append(node)
            elif isinstance(node, ast.ClassDef):
                for part in node.body:
                    if isinstance(part, ast.FunctionDef):
                        methods.setdefault(part.name, []).append(part)
                        if part.name == "__init__":
                            classes[node.name] = [part]
    return functions, methods, classes


FUNCTIONS, METHODS, CLASSES = defined()
STORED = {node.attr for tree in TREES.values() for node in ast.walk(tree)
          if isinstance(node, ast.Attribute) and isinstance(node.ctx, ast.Store)}


def is_made(value):
    """Whether an expression makes a new list or dict that may be changed."""
    if isinstance(value, ast.Call):
        return isinstance(value.func, ast.Name) and value.func.id in ("list", "dict", "sorted")
    return isinstance(value, (ast.List, ast.Dict, ast.ListComp))


def own_names(function):
    """The local names to which only new lists and dicts are assigned."""
    made, others = set(), {part.arg for part in function.args.args}
    for node in ast.walk(function):
        if isinstance(node, ast.Assign):
            for target in node.targets:
                if isinstance(target, ast.Name):
                    (made if is_made(node.value) else others).add(target.id)
                elif isinstance(target, ast.Tuple):
                    others |= {part.id for part in ast.walk(target) if isinstance(part, ast.Name)}
        elif isinstance(node, (ast.For, ast.comprehension)):
            others |= {part.id for part in ast.walk(node.target) if isinstance(part, ast.Name)}
    return made - others


def changes(function):
    """What a function changes that it has not made itself."""
    own = own_names(function)
    for node in ast.walk(function):
        if isinstance(node, (ast.Attribute, ast.Subscript)) and isinstance(node.ctx, ast.Store):
            is_own = isinstance(node, ast.Subscript) and isinstance(node.value, ast.Name) and node.value.id in own
            if not is_own and function.name != "__init__":
                yield node
        elif isinstance(node, ast.AugAssign):
            if not isinstance(node.value, ast.Constant) or not isinstance(node.value.value, int):
                yield node
        elif isinstance(node, ast.Call) and isinstance(node.func, ast.Attribute) and node.func.attr in STORED:
            # Under this name the package holds something, which might be what is called.
            yield node
        elif isinstance(node, ast.Call) and isinstance(node.func, ast.Attribute) and node.func.attr in CHANGING:
            if not isinstance(node.func.value, ast.Name) or node.func.value.id not in own:
                yield node
        elif isinstance(node, ast.Call) and isinstance(node.func, ast.Name) and node.func.id in HEAPS:
            yield node
        elif isinstance(node, ast.Call) and isinstance(node.func, ast.Name):
            if node.func.id in {part.arg for part in function.args.args} - {"cls"}:
                yield node


def called(function):
    """The functions, methods and constructors that a function may call."""
    for node in ast.walk(function):
        if isinstance(node, ast.Call) and isinstance(node.func, ast.Name):
            yield from FUNCTIONS.get(node.func.id, []) + CLASSES.get(node.func.id, [])
        elif isinstance(node, ast.Call) and isinstance(node.func, ast.Attribute):
            yield from METHODS.get(node.func.attr, [])


def run_by(names):
    """The methods of these names, the properties, and all that they may call."""
    todo = [node for name in names for node in METHODS.get(name, [])]
    todo += [node for nodes in METHODS.values() for node in nodes
             if any(isinstance(mark, ast.Name) and mark.id == "property" for mark in node.decorator_list)]
    seen = []
    for function in todo:
        if function not in seen:
            seen.append(function)
            todo.extend(called(function))
    return seen


class PureOperatorsTest(unittest.TestCase):
    def test_nothing_else_is_changed(self):
        seen = run_by(OPERATORS)
        for function in seen:
            for node in changes(function):
                self.fail(f"{function.name}, line {node.lineno}: {ast.unparse(node)}")
        self.assertGreater(len(seen), 40)

    def test_heaps_are_made_where_they_are_changed(self):
        heaps = 0
        for function in run_by(MAGIC - {"__init__", "__call__"}):
            for node in ast.walk(function):
                if isinstance(node, ast.Call) and isinstance(node.func, ast.Name) and node.func.id in HEAPS:
                    heaps += 1
                    self.assertIn(ast.unparse(node.args[0]), own_names(function), function.name)
        self.assertGreater(heaps, 0)


if __name__ == "__main__":
    unittest.main()
