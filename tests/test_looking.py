import unittest

from halfmade.errors import Fault
from halfmade.looking import asked, follow, look
from halfmade.things import Late, Module


class LookingCase(unittest.TestCase):
    def fault(self, fault, action, *things):
        with self.assertRaises(Fault) as caught:
            action(*things)
        self.assertEqual(caught.exception.fault, fault)
        self.assertIs(type(caught.exception.fault), tuple)
        return caught.exception

    def setUp(self):
        self.a, self.b, self.c = Module(1, "a"), Module(2, "b"), Module(3, "c.d")
        self.chain = [(self.a, 0), (self.b, 4), (self.c, 2)]


class TestLook(LookingCase):
    def test_found(self):
        late = Late(self.b, "x")
        for thing in (7, 0, -1, self.a, self.b, late):
            self.a.bind("x", thing)
            for chain in ([], [(self.a, 3)], [(self.b, 3)], self.chain):
                self.assertIs(look(self.a, "x", chain), thing)

    def test_nought_is_a_thing(self):
        self.a.bind("x", 0)
        self.assertEqual(look(self.a, "x", self.chain), 0)
        self.assertEqual(follow(self.a, "x", self.chain), 0)

    def test_half_with_the_ring_of_one(self):
        self.fault(("HALF", "a", "x", (("a", 5),)), look, self.a, "x", [(self.a, 5)])
        self.fault(("HALF", "c.d", "x", (("c.d", 2),)), look, self.c, "x", self.chain)

    def test_half_with_the_ring_of_several(self):
        self.fault(("HALF", "b", "x", (("b", 4), ("c.d", 2))), look, self.b, "x", self.chain)

    def test_half_with_the_ring_of_the_whole_chain(self):
        ring = (("a", 0), ("b", 4), ("c.d", 2))
        self.fault(("HALF", "a", "x", ring), look, self.a, "x", self.chain)

    def test_rings_are_tuples_of_tuples(self):
        error = self.fault(("HALF", "b", "x", (("b", 4), ("c.d", 2))), look, self.b, "x", self.chain)
        ring = error.fault[3]
        self.assertEqual([type(ring)] + [type(part) for part in ring], [tuple] * 3)

    def test_a_half_made_one_shows_what_it_has(self):
        self.b.bind("x", 1)
        self.assertEqual(look(self.b, "x", self.chain), 1)
        self.fault(("HALF", "b", "y", (("b", 4), ("c.d", 2))), look, self.b, "y", self.chain)

    def test_no_name(self):
        self.a.bind("y", 1)
        self.fault(("NONAME", "a", "x"), look, self.a, "x", [])
        self.fault(("NONAME", "a", "x"), look, self.a, "x", self.chain[1:])
        self.fault(("NONAME", "c.d", "x"), look, self.c, "x", self.chain[:-1])

    def test_another_one_of_the_same_path_in_the_chain(self):
        other = Module(9, "a")
        self.fault(("NONAME", "a", "x"), look, other, "x", self.chain)
        self.fault(("NONAME", "a", "x"), look, self.a, "x", [(other, 0)])
        both = [(other, 7), (self.b, 1), (self.a, 3), (self.c, 0)]
        self.fault(("HALF", "a", "x", (("a", 3), ("c.d", 0))), look, self.a, "x", both)
        self.fault(("HALF", "a", "x", (("a", 7), ("b", 1), ("a", 3), ("c.d", 0))), look, other, "x", both)
        other.bind("x", 1)
        self.fault(("HALF", "a", "x", (("a", 3), ("c.d", 0))), look, self.a, "x", both)
        self.assertEqual(look(other, "x", both), 1)


class TestFollow(LookingCase):
    def setUp(self):
        super().setUp()
        self.d = Module(4, "d")
        self.a.bind("b", self.b)
        self.b.bind("c", self.c)
        self.c.bind("d", self.d)
        self.d.bind("x", 7)
        self.a.bind("n", 1)
        self.d.bind("f", Late(self.a, "n"))

    def test_found_at_each_length(self):
        for road, thing in (("b", self.b), ("b.c", self.c), ("b.c.d", self.d), ("b.c.d.x", 7), ("n", 1)):
            for chain in ([], self.chain):
                self.assertIs(follow(self.a, road, chain), thing)
        self.assertEqual(follow(self.c, "d.x", []), 7)

    def test_the_last_thing_may_be_of_any_kind(self):
        self.assertIsInstance(follow(self.a, "b.c.d.f", []), Late)
        self.d.bind("me", self.d)
        self.assertIs(follow(self.d, "me", []), self.d)

    def test_no_name_at_each_step(self):
        self.fault(("NONAME", "a", "x"), follow, self.a, "x", [])
        self.fault(("NONAME", "a", "x"), follow, self.a, "x.b.c.d", [])
        self.fault(("NONAME", "b", "x"), follow, self.a, "b.x", [])
        self.fault(("NONAME", "b", "x"), follow, self.a, "b.x.y", [])
        self.fault(("NONAME", "c.d", "x"), follow, self.a, "b.c.x", [])
        self.fault(("NONAME", "d", "y"), follow, self.a, "b.c.d.y", self.chain)

    def test_half_at_each_step(self):
        ring = (("a", 0), ("b", 4), ("c.d", 2))
        self.fault(("HALF", "a", "x", ring), follow, self.a, "x", self.chain)
        self.fault(("HALF", "a", "x", ring), follow, self.a, "x.b", self.chain)
        self.fault(("HALF", "b", "x", ring[1:]), follow, self.a, "b.x", self.chain)
        self.fault(("HALF", "c.d", "x", ring[2:]), follow, self.a, "b.c.x.y", self.chain)

    def test_flat_at_the_first_and_at_later_steps(self):
        self.fault(("FLAT", "a", "n"), follow, self.a, "n.x", [])
        self.fault(("FLAT", "a", "n"), follow, self.a, "n.n.n.n", self.chain)
        self.b.bind("n", 0)
        self.fault(("FLAT", "b", "n"), follow, self.a, "b.n.x", self.chain)
        self.c.bind("n", -1)
        self.fault(("FLAT", "c.d", "n"), follow, self.a, "b.c.n.x", [])
        self.fault(("FLAT", "d", "x"), follow, self.c, "d.x.y", [])

    def test_a_function_is_no_module(self):
        self.fault(("FLAT", "d", "f"), follow, self.d, "f.x", [])
        self.a.bind("f", Late(self.b, "c"))
        self.fault(("FLAT", "a", "f"), follow, self.a, "f.d", [])

    def test_flat_goes_ahead_of_what_would_come_behind(self):
        self.fault(("FLAT", "a", "n"), follow, self.a, "n.nowhere.at", [])

    def test_rings_of_modules_bound_to_one_another(self):
        self.c.bind("a", self.a)
        self.a.bind("me", self.a)
        self.assertIs(follow(self.a, "b.c.a", self.chain), self.a)
        self.assertIs(follow(self.a, "b.c.a.b", self.chain), self.b)
        self.assertIs(follow(self.c, "a.b.c.a", []), self.a)
        self.assertEqual(follow(self.a, "me.me.me.n", []), 1)
        self.fault(("HALF", "a", "x", (("a", 0), ("b", 4), ("c.d", 2))), follow, self.a, "b.c.a.x", self.chain)
        self.fault(("NONAME", "a", "x"), follow, self.a, "me.me.me.x", [])


class TestAsked(LookingCase):
    def test_its_road_is_followed_from_its_home(self):
        late = Late(self.a, "b.x")
        self.a.bind("b", self.b)
        self.b.bind("x", 7)
        self.assertEqual(asked(late, []), 7)
        self.assertEqual(asked(late, self.chain), 7)
        self.assertIs(asked(Late(self.a, "b"), []), self.b)

    def test_as_its_home_is_then(self):
        late = Late(self.a, "x")
        self.fault(("NONAME", "a", "x"), asked, late, [])
        self.fault(("HALF", "a", "x", (("a", 1),)), asked, late, [(self.a, 1)])
        self.a.bind("x", 1)
        self.assertEqual(asked(late, []), 1)
        self.a.bind("x", self.b)
        self.assertIs(asked(late, [(self.a, 1)]), self.b)

    def test_a_function_tells_functions_too(self):
        inner = Late(self.b, "y")
        self.a.bind("f", inner)
        self.assertIs(asked(Late(self.a, "f"), []), inner)
        itself = Late(self.a, "me")
        self.a.bind("me", itself)
        self.assertIs(asked(itself, []), itself)

    def test_faults(self):
        self.a.bind("n", 1)
        self.fault(("FLAT", "a", "n"), asked, Late(self.a, "n.x"), [])
        self.a.bind("b", self.b)
        self.fault(("NONAME", "b", "x"), asked, Late(self.a, "b.x"), [])
        self.fault(("HALF", "b", "x", (("b", 4), ("c.d", 2))), asked, Late(self.a, "b.x"), self.chain)


class TestHandedIn(LookingCase):
    def test_the_chain_stays(self):
        self.a.bind("b", self.b)
        as_it_was = list(self.chain)
        for module in (self.a, self.b, self.c, Module(9, "a")):
            self.assertRaises(Fault, look, module, "x", self.chain)
            self.assertRaises(Fault, follow, module, "b.x", self.chain)
            self.assertRaises(Fault, asked, Late(module, "b.x"), self.chain)
        self.assertEqual(self.chain, as_it_was)
        self.assertEqual([module.bound() for module in (self.a, self.b, self.c)], [["b"], [], []])

    def test_changed_behind_the_call_it_is_answered_as_it_is_then(self):
        chain = [(self.a, 0)]
        first = self.fault(("HALF", "a", "x", (("a", 0),)), look, self.a, "x", chain)
        chain[0] = (self.a, 3)
        chain.append((self.b, 1))
        second = self.fault(("HALF", "a", "x", (("a", 3), ("b", 1))), look, self.a, "x", chain)
        chain.clear()
        self.fault(("NONAME", "a", "x"), look, self.a, "x", chain)
        self.assertEqual(first.fault, ("HALF", "a", "x", (("a", 0),)))
        self.assertEqual(second.fault, ("HALF", "a", "x", (("a", 3), ("b", 1))))

    def test_faults_told_ahead_stay(self):
        error = self.fault(("NONAME", "a", "x"), look, self.a, "x", [])
        self.a.bind("x", 1)
        self.assertEqual(error.fault, ("NONAME", "a", "x"))
        self.assertEqual(look(self.a, "x", []), 1)

    def test_the_same_asked_twice_is_told_alike(self):
        for chain in ([], self.chain):
            faults = []
            for turn in range(2):
                with self.assertRaises(Fault) as caught:
                    look(self.b, "x", chain)
                faults.append(caught.exception.fault)
            self.assertEqual(faults[0], faults[1])


if __name__ == "__main__":
    unittest.main()
