"""Point 3: the refusals, their base and their fields; point 2 for what they keep."""

import copy
import pickle
import unittest

from dosehouse.errors import (
    HouseError, NoEntry, NoLine, NoPieces, NoText, Torn, Twice, Unsafe)

FAULTS = [("astray", 0, 5), ("cap", 1, 2, 0, 7, 10 ** 30, 12), ("gap", 0, 5, 1, 6)]

# Each refusal, the name of its field, and values that it may be made with.
REFUSALS = [
    (NoText, "place", [0, 1, 300]),
    (NoPieces, "amount", [0, 1, 2000]),
    (Twice, "entry", [(0, 0), (5, 10 ** 9)]),
    (NoEntry, "entry", [(0, 0), (11, 10 ** 9)]),
    (Unsafe, "faults", [FAULTS, FAULTS[:1], []]),
    (Torn, "mark", [("a", 1), ("zzzzzzzz", 10 ** 30)]),
    (NoLine, "line", ["", " show", "give nobody 1 2"]),
]


def made():
    """Each refusal made with each of its values: (class, field, value, object)."""
    return [(kind, field, value, kind(value)) for kind, field, values in REFUSALS for value in values]


class Refusals(unittest.TestCase):

    def test_base_is_a_value_error(self):
        self.assertTrue(issubclass(HouseError, ValueError))
        self.assertIsNot(HouseError, ValueError)

    def test_each_is_a_house_error_and_a_value_error(self):
        for kind, field, value, error in made():
            with self.subTest(kind=kind.__name__, value=value):
                self.assertIsInstance(error, HouseError)
                self.assertIsInstance(error, ValueError)

    def test_each_has_its_field(self):
        for kind, field, value, error in made():
            with self.subTest(kind=kind.__name__, value=value):
                self.assertEqual(getattr(error, field), value)
                self.assertIs(type(getattr(error, field)), type(value))

    def test_each_takes_its_value_by_the_field_s_name(self):
        for kind, field, values in REFUSALS:
            with self.subTest(kind=kind.__name__):
                self.assertEqual(getattr(kind(**{field: values[0]}), field), values[0])

    def test_no_refusal_is_made_without_its_value(self):
        for kind, field, values in REFUSALS:
            with self.subTest(kind=kind.__name__):
                self.assertRaises(TypeError, kind)

    def test_none_is_another_one(self):
        for kind, field, value, error in made():
            for other, other_field, others in REFUSALS:
                if other is not kind:
                    with self.subTest(kind=kind.__name__, other=other.__name__):
                        self.assertNotIsInstance(error, other)
                        self.assertFalse(issubclass(kind, other))

    def test_seven_of_them(self):
        self.assertEqual(len(set(kind for kind, field, values in REFUSALS)), 7)
        self.assertNotIn(HouseError, [kind for kind, field, values in REFUSALS])

    def test_each_is_raised_and_taken_by_its_own_name_and_by_the_base(self):
        for kind, field, value, error in made():
            for name in (kind, HouseError, ValueError):
                with self.subTest(kind=kind.__name__, name=name.__name__):
                    with self.assertRaises(name) as caught:
                        raise error
                    self.assertEqual(getattr(caught.exception, field), value)

    def test_no_handler_of_another_one_takes_it(self):
        for kind, field, value, error in made():
            others = tuple(other for other, name, values in REFUSALS if other is not kind)
            with self.subTest(kind=kind.__name__):
                with self.assertRaises(kind):
                    try:
                        raise error
                    except others:
                        pass

    def test_each_can_be_shown_and_copied(self):
        for kind, field, value, error in made():
            with self.subTest(kind=kind.__name__, value=value):
                self.assertIsInstance(str(error), str)
                for again in (copy.copy(error), pickle.loads(pickle.dumps(error))):
                    self.assertIs(type(again), kind)
                    self.assertEqual(getattr(again, field), value)


class Kept(unittest.TestCase):

    def test_what_is_done_to_the_handed_in_list_changes_no_refusal(self):
        handed = list(FAULTS)
        error = Unsafe(handed)
        shown = str(error)
        handed.append(("part", 0, 5))
        handed[0] = None
        self.assertEqual(error.faults, FAULTS)
        self.assertEqual(str(error), shown)

    def test_what_is_done_to_the_field_changes_no_handed_in_list(self):
        handed = list(FAULTS)
        error = Unsafe(handed)
        error.faults.clear()
        self.assertEqual(handed, FAULTS)

    def test_two_refusals_of_one_list_share_nothing(self):
        handed = list(FAULTS)
        first = Unsafe(handed)
        second = Unsafe(handed)
        first.faults.clear()
        self.assertEqual(second.faults, FAULTS)


if __name__ == "__main__":
    unittest.main()
