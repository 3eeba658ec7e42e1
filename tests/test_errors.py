import unittest

from flipthreads import errors

# Every error of the interface: its name, its direct base class and its parameters.
ERRORS = [
    ("InvalidSize", "ThreadError", ["given"]),
    ("InvalidSheet", "ThreadError", []),
    ("InvalidTriangle", "ThreadError", ["at"]),
    ("InvalidOrder", "ThreadError", []),
    ("InvalidLine", "ThreadError", ["given"]),
    ("InvalidNail", "ThreadError", ["given"]),
    ("Unflippable", "ThreadError", ["at"]),
    ("InvalidCounts", "ThreadError", []),
    ("Misfit", "ThreadError", ["at"]),
    ("InvalidFactor", "ThreadError", ["given"]),
    ("InvalidPosition", "ThreadError", ["given"]),
    ("OtherSheet", "ThreadError", []),
    ("TooGreat", "ThreadError", ["most"]),
    ("NotThread", "ThreadError", []),
    ("EndsMeet", "ThreadError", ["line"]),
    ("InvalidPath", "ThreadError", ["at"]),
    ("NotPlain", "ThreadError", []),
    ("InvalidRenaming", "ThreadError", []),
    ("InvalidTurn", "ThreadError", ["line"]),
    ("InvalidName", "ThreadError", ["name"]),
    ("DuplicateName", "ThreadError", ["name"]),
    ("TooMany", "ThreadError", ["most"]),
    ("Entangled", "ThreadError", ["first", "second"]),
    ("InvalidDeed", "ThreadError", ["at"]),
    ("InvalidLimit", "ThreadError", ["given"]),
    ("InvalidText", "ThreadError", []),
    ("InvalidPage", "ThreadError", ["line"]),
    ("UnknownName", "Missing", ["name"]),
    ("NothingLeft", "IndexError", []),
]
ROOTS = {"ThreadError": ValueError, "Missing": LookupError}
ANY_VALUES = [0, -7, 10 ** 30, "", "text", True, None, (), (1, "a"), [], [1, [2, None]], {"a": 1}, object(), ValueError]


def class_of(name):
    return getattr(errors, name, None) or {"IndexError": IndexError}[name]


def all_classes():
    return [class_of(name) for name in list(ROOTS) + [row[0] for row in ERRORS]]


class ErrorClasses(unittest.TestCase):
    def test_there_are_29_errors_and_two_bases(self):
        self.assertEqual(len(set(all_classes())), 31)

    def test_direct_bases(self):
        for name, base, _ in ERRORS:
            with self.subTest(name):
                self.assertEqual(class_of(name).__bases__, (class_of(base),))
        for name, base in ROOTS.items():
            self.assertEqual(class_of(name).__bases__, (base,))

    def test_each_is_caught_as_itself_and_its_base_alone(self):
        for name, base, params in ERRORS:
            error = class_of(name)(*range(len(params)))
            for other in all_classes():
                with self.subTest(name, other=other.__name__):
                    caught = False
                    try:
                        raise error
                    except other:
                        caught = True
                    except Exception as e:
                        self.assertIs(e, error)
                    self.assertEqual(caught, other.__name__ in (name, base))

    def test_code_is_the_name_of_the_class(self):
        for name, _, params in ERRORS:
            with self.subTest(name):
                self.assertEqual(class_of(name)(*range(len(params))).code, name)

    def test_attributes_by_position(self):
        for name, _, params in ERRORS:
            for value in ANY_VALUES:
                with self.subTest(name, value=value):
                    given = [value, (name, value)][:len(params)]
                    error = class_of(name)(*given)
                    for param, passed in zip(params, given):
                        self.assertIs(getattr(error, param), passed)

    def test_attributes_by_name(self):
        for name, _, params in ERRORS:
            for value in ANY_VALUES:
                with self.subTest(name, value=value):
                    given = dict(zip(params, [value, (name, value)]))
                    error = class_of(name)(**given)
                    for param, passed in given.items():
                        self.assertIs(getattr(error, param), passed)
                    self.assertEqual(error.code, name)

    def test_no_other_number_of_arguments(self):
        for name, _, params in ERRORS:
            with self.subTest(name):
                self.assertRaises(TypeError, class_of(name), *range(len(params) + 1))
                if params:
                    self.assertRaises(TypeError, class_of(name))

    def test_attributes_are_each_error_s_own(self):
        one, other = errors.InvalidLine(1), errors.InvalidLine(2)
        self.assertEqual((one.given, other.given), (1, 2))

    def test_messages_can_be_shown(self):
        for name, _, params in ERRORS:
            self.assertIsInstance(str(class_of(name)(*range(len(params)))), str)


if __name__ == "__main__":
    unittest.main()
