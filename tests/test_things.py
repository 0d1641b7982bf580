import unittest

from halfmade.things import Late, Module, told
from tests.things_at_hand import SIXTY


class TestModule(unittest.TestCase):
    def test_its_values(self):
        for number, path in ((1, "a"), (2, "a"), (16, "abcdefgh.b.c.d"), (SIXTY, "a.b")):
            module = Module(number, path)
            self.assertEqual((module.number, module.path), (number, path))

    def test_new_it_has_no_names(self):
        module = Module(1, "a")
        self.assertEqual(module.bound(), [])
        for name in ("a", "x", "number", "path", "things"):
            self.assertIs(module.has(name), False)
            self.assertIsNone(module.thing_of(name))

    def test_bound_to_numbers(self):
        module = Module(1, "a")
        for at, number in enumerate((0, 1, -1, SIXTY, -SIXTY)):
            name = "abcde"[at]
            self.assertIs(module.has(name), False)
            self.assertIsNone(module.bind(name, number))
            self.assertIs(module.has(name), True)
            self.assertEqual(module.thing_of(name), number)
            self.assertEqual(module.bound(), list("abcde"[:at + 1]))

    def test_bound_to_modules_itself_and_functions(self):
        module, other = Module(1, "a"), Module(2, "b")
        late, far = Late(module, "x.y"), Late(other, "z")
        for name, thing in (("other", other), ("self", module), ("late", late), ("far", far)):
            module.bind(name, thing)
            self.assertIs(module.has(name), True)
            self.assertIs(module.thing_of(name), thing)
        self.assertEqual(module.bound(), ["far", "late", "other", "self"])
        self.assertEqual(other.bound(), [])

    def test_bound_again_it_has_the_new_thing_alone(self):
        module, other = Module(1, "a"), Module(2, "b")
        things = [7, other, module, Late(other, "x"), Late(module, "x"), 0, 7, 7]
        for thing in things:
            module.bind("x", thing)
            self.assertIs(module.has("x"), True)
            self.assertIs(module.thing_of("x"), thing)
            self.assertEqual(module.bound(), ["x"])

    def test_others_stay_when_one_is_bound(self):
        module = Module(1, "a")
        module.bind("x", 1)
        module.bind("y", 2)
        module.bind("x", 3)
        self.assertEqual([module.thing_of(name) for name in "xyz"], [3, 2, None])
        self.assertEqual([module.has(name) for name in "xyz"], [True, True, False])

    def test_bound_is_sorted_in_whatever_order(self):
        names = ["b", "a", "ab", "z", "aa", "abcdefgh", "c"]
        for order in (names, names[::-1], sorted(names)):
            module = Module(1, "a")
            for name in order:
                module.bind(name, 1)
            self.assertEqual(module.bound(), ["a", "aa", "ab", "abcdefgh", "b", "c", "z"])

    def test_the_told_list_is_the_askers_own(self):
        module = Module(1, "a")
        module.bind("x", 1)
        first = module.bound()
        first.append("y")
        first[0] = "z"
        self.assertEqual(module.bound(), ["x"])
        self.assertIs(module.has("y"), False)
        self.assertIs(module.has("z"), False)
        module.bound().clear()
        self.assertEqual(module.bound(), ["x"])
        self.assertIsNot(module.bound(), module.bound())

    def test_a_list_told_ahead_of_a_bind_stays(self):
        module = Module(1, "a")
        ahead = module.bound()
        module.bind("x", 1)
        between = module.bound()
        module.bind("w", 1)
        self.assertEqual(ahead, [])
        self.assertEqual(between, ["x"])
        self.assertEqual(module.bound(), ["w", "x"])

    def test_modules_have_names_of_their_own(self):
        one, alike = Module(1, "a"), Module(1, "a")
        one.bind("x", 1)
        self.assertEqual(alike.bound(), [])
        self.assertIs(alike.has("x"), False)

    def test_asking_binds_nothing(self):
        module = Module(1, "a")
        module.has("x")
        module.thing_of("x")
        told(module)
        self.assertEqual(module.bound(), [])


class TestLate(unittest.TestCase):
    def test_its_values(self):
        home = Module(3, "a.b")
        for road in ("x", "x.y", "x.y.z.w"):
            late = Late(home, road)
            self.assertIs(late.home, home)
            self.assertEqual(late.road, road)


class TestTold(unittest.TestCase):
    def test_numbers(self):
        for number in (0, 1, -1, SIXTY, -SIXTY):
            self.assertEqual(told(number), number)
            self.assertIs(type(told(number)), int)

    def test_modules(self):
        self.assertEqual(told(Module(1, "a")), ("module", 1))
        self.assertEqual(told(Module(7, "a.b")), ("module", 7))

    def test_functions(self):
        self.assertEqual(told(Late(Module(1, "a"), "x")), ("function", 1, "x"))
        self.assertEqual(told(Late(Module(4, "b.c"), "x.y.z")), ("function", 4, "x.y.z"))

    def test_things_told_are_not_changed_by_what_is_bound(self):
        module = Module(2, "a")
        late = Late(module, "x")
        ahead = (told(module), told(late))
        module.bind("x", module)
        module.bind("y", late)
        self.assertEqual((told(module), told(late)), ahead)
        self.assertEqual(told(module.thing_of("x")), ("module", 2))
        self.assertEqual(told(module.thing_of("y")), ("function", 2, "x"))


if __name__ == "__main__":
    unittest.main()
