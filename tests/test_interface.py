"""The names of the interface: each is defined in its own file, each method in its own class."""

import importlib
import inspect
import unittest

FUNCTIONS = {
    "sentences": {"answer_set": "(answers)"},
    "closing": {"close": "(letters, told)"},
    "strikes": {"struck": "(closing, history)", "are_one": "(closing, one, other)", "follows": "(closing, sentence)"},
    "chains": {"is_chain": "(sentences, first, last, steps)", "is_rows": "(letters, told, rows)",
               "chain": "(closing, history)", "why": "(closing, one, other)", "length": "(closing, steps)",
               "unfolded": "(closing, steps, *, most=1000)"},
}

CLASSES = {
    "letters": {"Letters": ("(words)", ["rank", "__contains__", "__len__", "__eq__", "__iter__"])},
    "histories": {"History": ("(letters, beginning, runs=())",
                              ["word", "cut", "spelled", "__getitem__", "__add__", "__eq__", "__iter__"])},
    "sentences": {"Sentence": ("(letters, kind, first, second=None)", ["left", "right", "__eq__", "__str__"]),
                  "Limit": ("(letters, kind, answers, letter=None)", ["__eq__", "__str__"])},
    "closing": {"Closing": (None, ["least", "pair", "is_still", "form"])},
}


class InterfaceTest(unittest.TestCase):
    def found(self, module, name):
        value = getattr(importlib.import_module(f"asksmore.{module}"), name)
        self.assertEqual(value.__module__, f"asksmore.{module}")
        return value

    def test_functions(self):
        for module, functions in FUNCTIONS.items():
            for name, signature in functions.items():
                self.assertEqual(str(inspect.signature(self.found(module, name))), signature, name)

    def test_classes(self):
        for module, classes in CLASSES.items():
            for name, (signature, methods) in classes.items():
                cls = self.found(module, name)
                if signature is not None:
                    self.assertEqual(str(inspect.signature(cls)), signature, name)
                for method in methods:
                    self.assertIn(method, vars(cls), f"{name}.{method}")


if __name__ == "__main__":
    unittest.main()
