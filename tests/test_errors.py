"""The classes of errors.py: how they are made, what they keep, and what they stand under."""

import unittest

from touchpasses import errors
from touchpasses.tracks import Track

BASES = {"BadValue": ValueError, "BadName": LookupError, "NoAnswer": ArithmeticError}
GIVEN = {
    "BadValue": ("InvalidText", "InvalidLength", "InvalidPass", "InvalidPlace", "InvalidTick", "InvalidName",
                 "InvalidChange", "InvalidLimit", "InvalidWish", "InvalidIndex", "NotATrack", "OtherLength"),
    "BadName": ("UnknownName", "NotKnown"),
    "NoAnswer": (),
}
INDEX = {
    "BadValue": ("InvalidPasses", "InvalidKnown", "InvalidBounds", "InvalidChanges", "InvalidWishes"),
    "BadName": ("InUse",),
    "NoAnswer": ("Broken",),
}
MOST = {"BadValue": (), "BadName": (), "NoAnswer": ("TooMany",)}
TABLES = (("given", GIVEN), ("index", INDEX), ("most", MOST))
VALUES = (None, True, False, 0, 8, -3, 10 ** 39, "", "text", b"b", (), (1, "a"), [], ["a"], {}, {"a": 1}, object(),
          Track(5), ValueError("x"))


def with_attribute():
    """The rows (name of the base class, class, attribute) of all classes that have one."""
    return [(base, getattr(errors, name), word)
            for word, table in TABLES for base, names in table.items() for name in names]


class Attributes(unittest.TestCase):

    def test_by_position_and_by_name_any_value_is_kept(self):
        for _, made, word in with_attribute():
            for value in VALUES:
                with self.subTest(made=made.__name__, value=repr(value)):
                    self.assertIs(getattr(made(value), word), value)
                    self.assertIs(getattr(made(**{word: value}), word), value)

    def test_what_is_raised_is_caught_with_its_value(self):
        for base, made, word in with_attribute():
            with self.subTest(made.__name__):
                value = ["x"]
                with self.assertRaises(getattr(errors, base)) as caught:
                    raise made(value)
                self.assertIs(type(caught.exception), made)
                self.assertIs(getattr(caught.exception, word), value)

    def test_two_objects_keep_their_own_values(self):
        for _, made, word in with_attribute():
            with self.subTest(made.__name__):
                one, two = made(1), made(2)
                self.assertEqual((getattr(one, word), getattr(two, word)), (1, 2))

    def test_those_without_an_attribute(self):
        for name in ("BadValue", "BadName", "NoAnswer", "NothingToUndo"):
            with self.subTest(name):
                made = getattr(errors, name)()
                self.assertEqual([word for word in ("given", "index", "most") if hasattr(made, word)], [])


class Families(unittest.TestCase):

    def own(self, made):
        """The classes of the package that the class belongs to."""
        return [one.__name__ for one in made.__mro__ if one.__module__.split(".")[0] == "touchpasses"]

    def pythons(self, made):
        """Which of Python's three classes the class stands under."""
        return [one for one in (ValueError, LookupError, ArithmeticError) if issubclass(made, one)]

    def test_base_classes(self):
        for name, above in BASES.items():
            with self.subTest(name):
                made = getattr(errors, name)
                self.assertEqual(self.own(made), [name])
                self.assertEqual(self.pythons(made), [above])

    def test_classes_under_them(self):
        rows = with_attribute() + [("NoAnswer", errors.NothingToUndo, "")]
        self.assertEqual(len(rows), 23)
        for base, made, _ in rows:
            with self.subTest(made.__name__):
                self.assertEqual(self.own(made), [made.__name__, base])
                self.assertEqual(self.pythons(made), [BASES[base]])

    def test_no_narrower_class_of_python(self):
        for base, made, _ in with_attribute():
            with self.subTest(made.__name__):
                self.assertFalse(issubclass(made, (KeyError, IndexError, ZeroDivisionError, UnicodeError)))

    def test_defined_in_this_file(self):
        names = [made.__name__ for _, made, _ in with_attribute()] + list(BASES) + ["NothingToUndo"]
        for name in names:
            with self.subTest(name):
                self.assertEqual(getattr(errors, name).__module__, "touchpasses.errors")


class Objects(unittest.TestCase):

    def all_made(self):
        return ([made(0) for _, made, _ in with_attribute()]
                + [getattr(errors, name)() for name in (*BASES, "NothingToUndo")])

    def test_each_object_is_true(self):
        for made in self.all_made():
            with self.subTest(type(made).__name__):
                self.assertIs(bool(made), True)

    def test_equal_to_itself_alone(self):
        for one, two in zip(self.all_made(), self.all_made()):
            with self.subTest(type(one).__name__):
                self.assertIs(one == one, True)
                self.assertIs(one != one, False)
                self.assertIs(one == two, False)
                self.assertIs(one != two, True)
                self.assertIs(one == 0, False)
                self.assertIs(one != 0, True)


if __name__ == "__main__":
    unittest.main()
