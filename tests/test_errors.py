"""The errors: nearlords.errors ([0.2])."""
from nearlords import errors
from tests.base import Case

NAMES = (
    "BadSize", "BadPair", "NotOrder", "BadRank", "BadPlace", "BadParent", "Round", "BadDeed", "BadRow",
    "BadCode", "BadCount", "NotJoined", "Joined", "Unlike", "IsLord", "TooMany", "BadPrice", "BadWeight",
    "BadNarrow", "BadText", "NothingToUndo", "NothingToRedo",
)


class Errors(Case):

    def test_refused_stands_under_value_error(self):
        self.assertTrue(issubclass(errors.Refused, ValueError))
        self.assertEqual(errors.Refused(7).what, 7)

    def test_all_22_stand_under_refused_and_none_under_another(self):
        self.assertEqual(len(set(NAMES)), 22)
        for name in NAMES:
            found = getattr(errors, name)
            self.assertTrue(issubclass(found, errors.Refused), name)
            for other in NAMES:
                if other != name:
                    self.assertFalse(issubclass(found, getattr(errors, other)), (name, other))

    def test_what_keeps_the_argument_as_it_is(self):
        for name in NAMES:
            for what in (0, -1, 10 ** 40, (2,), (1, 0), "", "up 1"):
                self.assertEqual(getattr(errors, name)(what).what, what)
                self.assertEqual(getattr(errors, name)(what=what).what, what)

    def test_each_is_made_from_one_argument(self):
        for name in NAMES + ("Refused",):
            self.assertRaises(TypeError, getattr(errors, name))
            self.assertRaises(TypeError, getattr(errors, name), 1, 2)
