import unittest

from queryheld import errors

WITHOUT_FIELDS = (
    "BadSemantics", "BadFilter", "BadRow", "BadCase", "BadIdentity", "BadArguments",
    "BadIdentities", "NotText", "InvalidText", "NotNow", "NothingToUndo",
)
WITH_INDEX = ("BadTable", "BadExpression")


class ErrorsTest(unittest.TestCase):
    def test_base_class(self):
        self.assertEqual(errors.QueryError.__bases__, (ValueError,))

    def test_all_are_direct_subclasses(self):
        for name in WITHOUT_FIELDS + WITH_INDEX:
            with self.subTest(name):
                found = getattr(errors, name)
                self.assertEqual(found.__bases__, (errors.QueryError,))
                self.assertEqual(found.__module__, "queryheld.errors")

    def test_no_further_errors(self):
        found = [name for name, value in vars(errors).items() if isinstance(value, type)]
        self.assertEqual(sorted(found), sorted(WITHOUT_FIELDS + WITH_INDEX + ("QueryError",)))

    def test_index_is_a_field(self):
        for name in WITH_INDEX:
            for index in (0, 1):
                with self.subTest(name, index=index):
                    self.assertEqual(vars(getattr(errors, name)(index)), {"index": index})
                    self.assertEqual(getattr(errors, name)(index=index).index, index)

    def test_others_have_no_fields(self):
        for name in WITHOUT_FIELDS:
            with self.subTest(name):
                self.assertEqual(vars(getattr(errors, name)("why")), {})
                self.assertIsInstance(getattr(errors, name)(), ValueError)


if __name__ == "__main__":
    unittest.main()
