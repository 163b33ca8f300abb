"""Point 12: the errors and their fields."""

import unittest

from asksmore import errors
from asksmore.letters import Letters

FIELDS = {
    "BadLetters": ["index"], "BadLetter": ["index"], "BadBeginning": [], "BadRuns": ["index"],
    "BadCount": ["index"], "BadPlace": ["place"], "BadKind": [], "SaysNothing": [],
    "BadAnswers": ["index"], "BadTold": ["index"], "BadStep": ["index"], "NotLive": ["index"],
    "OtherLetters": [], "TooLong": ["size"], "TooMany": ["what", "many", "most"], "BadRow": ["index"],
    "TwiceTold": ["index"], "BadEnd": ["index"], "BadNumber": ["number"], "BadMenu": ["index"],
    "BadState": ["index"], "Uneven": ["have", "want"], "BadTop": ["top"], "BadWord": ["which", "index"],
    "BadStand": ["stand"], "BadSpecial": ["index"], "BadName": ["name"], "Unknown": ["name"],
    "Known": ["name"], "Impossible": [], "Unfair": [], "NoFact": [], "BadDeeds": ["index"],
    "BadAsks": ["index"], "BadProgram": ["ask"], "OtherDeeds": [], "BadText": ["line", "place"],
    "Refused": ["ask", "name"], "Overasked": ["name"], "NothingLeft": [],
}

VALUES = [None, True, False, 0, -1, 10 ** 30, "", "up", (), (1, "a"), [], [1, [2]], {}, {"a": [1]},
          Letters(["a"]), [Letters(["a"]), {(1, 2): ({},)}]]


class ErrorsTest(unittest.TestCase):
    def test_all_and_no_others_are_there(self):
        found = [name for name, value in vars(errors).items()
                 if isinstance(value, type) and value is not errors.AsksError]
        self.assertEqual(sorted(found), sorted(FIELDS))

    def test_bases(self):
        self.assertEqual(errors.AsksError.__bases__, (ValueError,))
        for name in FIELDS:
            cls = getattr(errors, name)
            self.assertEqual(cls.__bases__, (errors.AsksError,), name)
            self.assertEqual(cls.__module__, "asksmore.errors")

    def same(self, one, other):
        self.assertEqual(one, other)
        self.assertIs(type(one), type(other))

    def check(self, error, name, values):
        self.assertIsInstance(error, errors.AsksError)
        self.assertIsInstance(error, ValueError)
        for field, value in zip(FIELDS[name], values):
            self.same(getattr(error, field), value)
        self.assertEqual(sorted(vars(error)), sorted(FIELDS[name]))

    def test_fields_by_position_and_by_name(self):
        for name, fields in FIELDS.items():
            cls = getattr(errors, name)
            for turn in range(len(VALUES)):
                values = [VALUES[(turn + at) % len(VALUES)] for at in range(len(fields))]
                for many in range(len(fields) + 1):
                    named = dict(zip(fields[many:], values[many:]))
                    self.check(cls(*values[:many], **named), name, values)
                    turned = {key: named[key] for key in reversed(list(named))}
                    self.check(cls(*values[:many], **turned), name, values)

    def test_fields_are_needed(self):
        for name, fields in FIELDS.items():
            if fields:
                with self.assertRaises(TypeError):
                    getattr(errors, name)(*[0] * (len(fields) - 1))
                with self.assertRaises(TypeError):
                    getattr(errors, name)(*[0] * (len(fields) + 1))

    def test_raised_and_caught(self):
        for name, fields in FIELDS.items():
            cls = getattr(errors, name)
            with self.assertRaises(cls) as caught:
                raise cls(*range(len(fields)))
            self.check(caught.exception, name, range(len(fields)))

    def test_fields_are_copies(self):
        given = [1, [2], {"a": [3]}, ([7],)]
        error = errors.BadPlace(given)
        given[1].append(4)
        given[2]["a"].append(5)
        given[3][0].append(8)
        given.append(6)
        self.assertEqual(error.place, [1, [2], {"a": [3]}, ([7],)])


if __name__ == "__main__":
    unittest.main()
