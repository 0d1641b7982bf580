import unittest

from halfmade import errors
from halfmade.errors import Failed, Fault, MadeError

OF_A_TEXT = ["NoText", "NoPath", "NoBody", "NoFinder", "NoNumber", "NotTaken", "NoRoad", "NoStock"]
FAULTS = [
    ("HALF", "a", "x", (("a", 0), ("b.c", 3))),
    ("NONAME", "a.b", "x"),
    ("FLAT", "a", "x"),
    ("NOMODULE", "a.b.c"),
    ("NOTASK", "a", "x"),
    ("stop",),
]


def kinds():
    return [getattr(errors, name) for name in OF_A_TEXT + ["Fault", "Failed"]]


def one_of_each():
    made = [getattr(errors, name)("a text") for name in OF_A_TEXT]
    return made + [Fault(("stop",)), Failed(("stop",), [("a", 0)])]


class TestKinds(unittest.TestCase):
    def test_made_error_is_straight_under_value_error(self):
        self.assertEqual(MadeError.__bases__, (ValueError,))

    def test_each_is_straight_under_made_error(self):
        for kind in kinds():
            with self.subTest(kind=kind):
                self.assertEqual(kind.__bases__, (MadeError,))

    def test_none_is_under_another(self):
        self.assertEqual(len(set(kinds())), 10)
        for kind in kinds():
            for other in kinds():
                self.assertEqual(issubclass(kind, other), kind is other, (kind, other))

    def test_each_is_caught_by_its_own_name_and_as_the_kinds_above(self):
        for error in one_of_each():
            for kind in (type(error), MadeError, ValueError):
                with self.subTest(error=error, kind=kind):
                    with self.assertRaises(kind) as caught:
                        raise error
                    self.assertIs(caught.exception, error)

    def test_none_is_caught_as_another_kind(self):
        for error in one_of_each():
            others = tuple(kind for kind in kinds() if kind is not type(error))
            with self.subTest(error=error):
                try:
                    raise error
                except others:
                    self.fail("caught as another kind")
                except MadeError as caught:
                    self.assertIs(caught, error)

    def test_an_error_of_a_text_tells_the_text(self):
        for name in OF_A_TEXT:
            self.assertEqual(str(getattr(errors, name)("a text")), "a text")


class TestFault(unittest.TestCase):
    def test_fault_is_what_it_was_made_of(self):
        for fault in FAULTS:
            error = Fault(fault)
            self.assertEqual(error.fault, fault)
            self.assertIsInstance(error.fault, tuple)

    def test_two_faults_have_each_their_own(self):
        first, second = Fault(("one",)), Fault(("two",))
        self.assertEqual((first.fault, second.fault), (("one",), ("two",)))

    def test_fault_when_caught(self):
        with self.assertRaises(Fault) as caught:
            raise Fault(("NOMODULE", "a"))
        self.assertEqual(caught.exception.fault, ("NOMODULE", "a"))


class TestFailed(unittest.TestCase):
    def test_values_are_what_it_was_made_of(self):
        for fault in FAULTS:
            for road in ([], [("a", 0)], [("a", 0), ("b.c", 39)]):
                error = Failed(fault, road)
                self.assertEqual(error.fault, fault)
                self.assertEqual(error.road, road)
                self.assertIsInstance(error.road, list)

    def test_the_handed_road_changed_behind_the_making_changes_nothing(self):
        for road in ([], [("a", 0), ("b", 1)]):
            handed = list(road)
            error = Failed(("stop",), handed)
            text = str(error)
            handed.append(("c", 2))
            handed[0] = ("d", 3)
            self.assertEqual(error.road, road)
            self.assertEqual(str(error), text)

    def test_the_errors_road_changed_leaves_the_handed_one(self):
        handed = [("a", 0)]
        error = Failed(("stop",), handed)
        error.road.clear()
        self.assertEqual(handed, [("a", 0)])

    def test_two_errors_of_one_road_share_no_list(self):
        handed = [("a", 0)]
        first, second = Failed(("stop",), handed), Failed(("stop",), handed)
        first.road.append(("b", 1))
        self.assertEqual(second.road, [("a", 0)])


if __name__ == "__main__":
    unittest.main()
