import itertools
import unittest

from queryheld import profiles as module
from queryheld.decisions import holds
from queryheld.errors import BadIdentities, BadIdentity, BadSemantics
from queryheld.identities import identities
from queryheld.profiles import implies, parting, profile, profiles, semantics_with
from queryheld.tables import all_semantics
from tests.strange import STRANGE
from tests.told import SHAPES, told

SQL = ("bag", "sum", "count", "unknown", "null")

# For each identity the list of the semantics under which the document tells that it holds, ascending.
WHERE = {name: [semantics for semantics in sorted(all_semantics()) if told(semantics)[name]] for name, _ in SHAPES}

WRONG_NAMES = STRANGE + ((), "not_in", "Not in", "not in ", ("not in",), ["not in"], "union")


class ExampleTest(unittest.TestCase):
    def test_example(self):
        sql = ("bag", "sum", "count", "unknown", "null")
        self.assertEqual(
            [len(profile(sql)), len(profiles()), implies("idempotent union", "absorbing union"),
             parting("not in", "total of parts"), semantics_with(("add and take", "total of union", "not in"))],
            [10, 17, True, ('bag', 'maximum', 'count', 'none', 'null'),
             (('bag', 'sum', 'count', 'none', 'zero'), ('bag', 'sum', 'count', 'value', 'zero'))],
        )
        with self.assertRaises(BadIdentities):
            semantics_with(("not in", "not in"))

    def test_defined_in_their_file(self):
        for function in (profile, profiles, implies, parting, semantics_with):
            self.assertEqual(function.__module__, module.__name__)


class ProfileTest(unittest.TestCase):
    def test_as_the_document_tells(self):
        for semantics in all_semantics():
            found = profile(semantics)
            self.assertIs(type(found), tuple)
            self.assertEqual(found, tuple(name for name, _ in SHAPES if told(semantics)[name]))

    def test_one_whole_profile(self):
        self.assertEqual(profile(SQL), (
            "absorbing intersection", "intersection by difference", "difference of union", "add and take",
            "union over intersection", "filter and", "projection of union", "semijoin and antijoin",
            "join over union", "count of union",
        ))

    def test_bad_semantics(self):
        for value in STRANGE + (SQL[:4], SQL + ("null",), list(SQL)):
            with self.assertRaises(BadSemantics):
                profile(value)


class ProfilesTest(unittest.TestCase):
    def test_all_profiles(self):
        found = profiles()
        self.assertIs(type(found), tuple)
        self.assertEqual(len(found), 17)
        self.assertEqual(set(found), {profile(semantics) for semantics in all_semantics()})
        for before, after in zip(found, found[1:]):
            self.assertLess(before, after)

    def test_counts_of_bags_and_sets(self):
        # With "set", unions and differences do not matter, and "zero" matters only if no null is unknown.
        found = {"bag": set(), "set": set()}
        for semantics in all_semantics():
            found[semantics[0]].add(profile(semantics))
        self.assertEqual(len(found["set"]), 3)
        self.assertEqual(len(found["bag"]), 14)


class ImpliesTest(unittest.TestCase):
    def test_all_pairs(self):
        for one, other in itertools.product(identities(), repeat=2):
            parted = [semantics for semantics in WHERE[one] if semantics not in WHERE[other]]
            with self.subTest(one=one, other=other):
                self.assertIs(implies(one, other), not parted)
                self.assertEqual(parting(one, other), parted[0] if parted else None)

    def test_known_pairs(self):
        self.assertIs(implies("total of union", "count of union"), True)
        self.assertIs(implies("count of union", "total of union"), False)
        self.assertEqual(parting("count of union", "total of union"), ("bag", "sum", "count", "none", "null"))
        self.assertIs(implies("projection of intersection", "add and take"), True)
        self.assertIs(implies("filter and", "projection of intersection"), False)
        self.assertEqual(parting("filter and", "projection of intersection"), all_semantics()[0])
        self.assertEqual(parting("join as semijoin", "not in"), ("set", "maximum", "count", "unknown", "null"))
        for name in identities():
            self.assertIs(implies(name, name), True)
            self.assertIs(implies(name, "join over union"), True)
            self.assertIsNone(parting(name, name))

    def test_bad_identities(self):
        for function in (implies, parting):
            for value in WRONG_NAMES:
                # What never holds implies all; the other name is looked at nevertheless.
                for name in ("not in", "projection of intersection"):
                    for arguments in ((value, name), (name, value), (value, value)):
                        with self.assertRaises(BadIdentity):
                            function(*arguments)


class SemanticsWithTest(unittest.TestCase):
    def expected(self, wanted):
        return tuple(semantics for semantics in sorted(all_semantics())
                     if all(semantics in WHERE[name] for name in wanted))

    def test_none_and_one_wanted(self):
        self.assertEqual(semantics_with(()), all_semantics())
        for name in identities():
            self.assertEqual(semantics_with((name,)), self.expected((name,)))

    def test_pairs_in_any_order(self):
        for wanted in itertools.permutations(identities(), 2):
            self.assertEqual(semantics_with(wanted), self.expected(wanted))

    def test_more_wanted(self):
        self.assertEqual(semantics_with(identities()), ())
        self.assertEqual(semantics_with(identities()[::-1]), ())
        for semantics in all_semantics():
            found = semantics_with(profile(semantics))
            self.assertIs(type(found), tuple)
            self.assertIn(semantics, found)
            self.assertEqual(found, self.expected(profile(semantics)))
            self.assertEqual(semantics_with(profile(semantics)[::-1]), found)
            for other in found:
                self.assertTrue(all(holds(other, name) for name in profile(semantics)))

    def test_bad_identities(self):
        names = identities()
        wrong = (
            "not in", ["not in"], {"not in": True}, ("not in", "not in"), ("not in", "filter or", "not in"),
            names + names[:1], names[-1:] + names, ("not_in",), ("not in", "nothing"), ("nothing", "not in"),
            ("nothing", "nothing"), (("not in",),), ("not in", ["filter or"]), ([], []), ({}, "not in"), ("not in", None),
            (None,), (True, False), ("",), "", [], {}, None,
        )
        for value in wrong + STRANGE:
            with self.assertRaises(BadIdentities):
                semantics_with(value)
        for value in STRANGE:
            with self.assertRaises(BadIdentities):
                semantics_with((value,))
            with self.assertRaises(BadIdentities):
                semantics_with(("not in", value))


if __name__ == "__main__":
    unittest.main()
