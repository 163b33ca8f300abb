"""The names of the interface: each is defined in its own file, each method in its own class."""

import importlib
import inspect
import unittest

FUNCTIONS = {
    "sentences": {"answer_set": "(answers)"},
    "closing": {"close": "(letters, told)"},
    "strikes": {"struck": "(closing, history)", "are_one": "(closing, one, other)", "follows": "(closing, sentence)"},
    "chains": {"is_chain": "(sentences, first, last, steps)", "is_rows": "(letters, told, rows)",
               "chain": "(closing, history)", "why": "(closing, one, other)", "length": "(closing, steps)",
               "unfolded": "(closing, steps, *, most=1000)"},
    "sorts": {"struck_words": "(closing, beginning)"},
    "widened": {"struck_sort": "(closing, sort, beginning)", "is_closed": "(closing, sort, arrows)"},
    "allowed": {"reaches": "(closing, letter, top)", "witness": "(closing, letter, top)",
                "allowed": "(closing, limits, top)", "barred": "(closing, limits)", "conflict": "(closing, limits)"},
    "verdicts": {"decide": "(closing, limits, test)", "is_paper": "(closing, limits, test, paper)"},
    "halves": {"menu": "(letters)", "halves": "(spec, test)"},
    "editions": {"holds": "(spec, item)", "within": "(one, other)", "parting": "(one, other)", "form": "(spec)",
                 "common": "(one, other)", "needless": "(spec)", "irreducible": "(spec, is_enough)",
                 "least_sets": "(spec, is_enough)", "cuts": "(spec, is_enough)",
                 "first_open": "(spec, beginning)", "struck_machine": "(spec)"},
    "texts": {"read_item": "(letters, line)", "write_sort": "(sort)", "read_sort": "(letters, line)",
              "write_test": "(test)", "read_test": "(letters, line)", "write_spec": "(spec)", "read_spec": "(text)",
              "write_book": "(book)", "read_book": "(text)"},
}

CLASSES = {
    "letters": {"Letters": ("(words)", ["rank", "__contains__", "__len__", "__eq__", "__iter__"])},
    "histories": {"History": ("(letters, beginning, runs=())",
                              ["word", "cut", "spelled", "__getitem__", "__add__", "__eq__", "__iter__"])},
    "sentences": {"Sentence": ("(letters, kind, first, second=None)", ["left", "right", "__eq__", "__str__"]),
                  "Limit": ("(letters, kind, answers, letter=None)", ["__eq__", "__str__"])},
    "closing": {"Closing": (None, ["least", "pair", "is_still", "form"])},
    "sorts": {"Sort": ("(letters, rows, ends)",
                       ["states", "step", "is_end", "repeated", "takes", "after", "least", "apart", "growth", "number_of",
                        "counts_apart", "rank_of", "every", "nothing", "only", "menus", "ending", "__or__", "__and__",
                        "__sub__", "__invert__", "__add__", "__mul__", "__rmul__", "__eq__", "__contains__",
                        "__getitem__", "__iter__"])},
    "widened": {"Widened": ("(closing, domain)", ["least", "word", "reach", "reached", "into"])},
    "answerers": {"Answerer": ("(closing, tops, special=())", ["__call__", "state", "breaks"])},
    "asked": {"After": ("(beginning, domain, answers)", ["__eq__"]),
              "Same": ("(beginning, domain, one, other)", ["__eq__"]),
              "State": ("(beginning, domain, one, other)", ["__eq__"])},
    "stands": {"Stands": ("(closing, one, other)", ["step", "end", "walk"])},
    "verdicts": {"Verdict": (None, ["word", "answerer", "paper"])},
    "machines": {"Machine": ("(letters, rows, answers, *, new=0, found=0)",
                             ["states", "__call__", "state", "breaks", "minimal", "apart", "words_with"])},
    "specs": {"Spec": ("(letters)",
                       ["names", "entries", "__len__", "__iter__", "__getitem__", "__setitem__", "drop", "copy",
                        "selected", "joined", "allowed", "is_possible", "decide", "admits", "unkept", "trial",
                        "attempt"])},
    "logs": {"Log": ("(spec)", ["spec", "facts", "record", "undo", "broken", "why", "possible", "sure", "unread"])},
    "books": {"Book": ("(deeds, asks)",
                       ["__getitem__", "__iter__", "seen", "copy", "is_possible", "within", "admits", "unkept"]),
              "Program": ("(book, answerers)", ["__call__"])},
    "desks": {"Desk": ("(book)", ["book", "guards", "say", "drop", "guard", "release", "undo", "redo", "run", "trial"])},
}

METHODS = {("sorts", "Sort", "number_of"): "(self, n, *, modulo=None)",
           ("sorts", "Sort", "step"): "(self, state, letter)", ("sorts", "Sort", "is_end"): "(self, state)",
           ("sorts", "Sort", "takes"): "(self, history)", ("sorts", "Sort", "after"): "(self, word)",
           ("sorts", "Sort", "apart"): "(self, other)", ("sorts", "Sort", "rank_of"): "(self, word)",
           ("sorts", "Sort", "only"): "(letters, word)", ("sorts", "Sort", "menus"): "(letters, menus)",
           ("sorts", "Sort", "ending"): "(letters, letter)", ("sorts", "Sort", "every"): "(letters)",
           ("widened", "Widened", "least"): "(self, start, x, end)",
           ("widened", "Widened", "word"): "(self, start, x, end)",
           ("widened", "Widened", "reach"): "(self, beginning, state, top)",
           ("widened", "Widened", "reached"): "(self, beginning, state, top)",
           ("widened", "Widened", "into"): "(self, beginning, forms)",
           ("answerers", "Answerer", "breaks"): "(self, sentence)",
           ("stands", "Stands", "step"): "(self, stand, letter)",
           ("stands", "Stands", "end"): "(self, stand, beginning)",
           ("stands", "Stands", "walk"): "(self, history)", ("verdicts", "Verdict", "word"): "(self)",
           ("verdicts", "Verdict", "answerer"): "(self)", ("verdicts", "Verdict", "paper"): "(self)",
           ("machines", "Machine", "__call__"): "(self, history)", ("machines", "Machine", "state"): "(self, history)",
           ("machines", "Machine", "breaks"): "(self, sentence)", ("machines", "Machine", "minimal"): "(self)",
           ("machines", "Machine", "apart"): "(self, other)",
           ("machines", "Machine", "words_with"): "(self, beginning, answers)",
           ("specs", "Spec", "drop"): "(self, name)", ("specs", "Spec", "copy"): "(self)",
           ("specs", "Spec", "selected"): "(self, names)", ("specs", "Spec", "joined"): "(self, other)",
           ("specs", "Spec", "allowed"): "(self, top)", ("specs", "Spec", "is_possible"): "(self)",
           ("specs", "Spec", "decide"): "(self, test)", ("specs", "Spec", "admits"): "(self, program)",
           ("specs", "Spec", "unkept"): "(self, program)", ("specs", "Spec", "trial"): "(self, action)",
           ("specs", "Spec", "attempt"): "(self, action)",
           ("logs", "Log", "record"): "(self, history, answer)", ("logs", "Log", "possible"): "(self, history)",
           ("logs", "Log", "sure"): "(self, history)", ("logs", "Log", "unread"): "(self, beginning, menus)",
           ("books", "Book", "seen"): "(self, ask, name, beginning, runs)", ("books", "Book", "within"): "(self, other)",
           ("books", "Book", "admits"): "(self, program)", ("books", "Book", "unkept"): "(self, program)",
           ("books", "Program", "__call__"): "(self, ask, name, beginning, runs)",
           ("desks", "Desk", "say"): "(self, ask, name, item)", ("desks", "Desk", "drop"): "(self, ask, name)",
           ("desks", "Desk", "guard"): "(self, name, ask, test)", ("desks", "Desk", "release"): "(self, name)",
           ("desks", "Desk", "run"): "(self, line)", ("desks", "Desk", "trial"): "(self, action)"}


class InterfaceTest(unittest.TestCase):
    def found(self, module, name):
        value = getattr(importlib.import_module(f"asksmore.{module}"), name)
        self.assertEqual(value.__module__, f"asksmore.{module}")
        return value

    def test_functions(self):
        for module, functions in FUNCTIONS.items():
            for name, signature in functions.items():
                self.assertEqual(str(inspect.signature(self.found(module, name))), signature, name)

    def test_classes(self):
        for module, classes in CLASSES.items():
            for name, (signature, methods) in classes.items():
                cls = self.found(module, name)
                if signature is not None:
                    self.assertEqual(str(inspect.signature(cls)), signature, name)
                for method in methods:
                    self.assertIn(method, vars(cls), f"{name}.{method}")

    def test_methods(self):
        for (module, name, method), signature in METHODS.items():
            found = getattr(self.found(module, name), method)
            self.assertEqual(str(inspect.signature(found)), signature, f"{name}.{method}")


if __name__ == "__main__":
    unittest.main()
