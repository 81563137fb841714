"""The errors of the package: their names, what stands above them, what they carry."""

import unittest

from neverfewer import errors
from wrong import ABOVE, ATTRIBUTES, KINDS, check_raised


class Errors(unittest.TestCase):

    def test_classes_above(self):
        for base, python in ABOVE.items():
            self.assertEqual(getattr(errors, base).__bases__, (python,), base)
            for name in ATTRIBUTES[base]:
                self.assertEqual(getattr(errors, name).__bases__, (getattr(errors, base),), name)
                self.assertEqual(getattr(errors, name).__name__, name)

    def test_made_with_any_values(self):
        for base in ABOVE:
            for name, keys in ATTRIBUTES[base].items():
                for value in KINDS:
                    values = [value] + [(value, key) for key in keys[1:]]
                    by_place = getattr(errors, name)(*values[:len(keys)])
                    by_name = getattr(errors, name)(**dict(zip(keys, values)))
                    for key, told in zip(keys, values):
                        self.assertIs(getattr(by_place, key), told)
                        self.assertIs(getattr(by_name, key), told)

    def test_raised_and_caught_by_what_stands_above(self):
        for base, python in ABOVE.items():
            for name, keys in ATTRIBUTES[base].items():
                for caught in (getattr(errors, name), getattr(errors, base), python):
                    with self.assertRaises(caught):
                        raise getattr(errors, name)(*keys)

    def test_attributes_of_two(self):
        self.assertEqual(vars(errors.NotFlype(1, (2, 3))), {"tie": 1, "ties": (2, 3)})
        self.assertEqual(vars(errors.NotLead((0,), (2, 3))), {"bare": (0,), "piece": (2, 3)})
        self.assertEqual(vars(errors.TooMany("ties", 14)), {"what": "ties", "limit": 14})
        self.assertEqual(vars(errors.NotFlype(ties=None, tie=True)), {"tie": True, "ties": None})

    def test_the_check_itself(self):
        def fails():
            raise errors.InvalidTie(True)
        check_raised(self, ("InvalidTie", {"value": True}), fails)
        for told in (("InvalidTie", {"value": 1}), ("InvalidTies", {"value": True})):
            with self.assertRaises(self.failureException):
                check_raised(self, told, fails)


if __name__ == "__main__":
    unittest.main()
