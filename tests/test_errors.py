import unittest

from meetstores import errors
from meetstores.errors import StoreError

PLAIN = (
    "BadOctets", "BadPlace", "BadCount", "BadText", "BadValue", "Short", "BadPoly", "BadRoots", "BadKey", "BadHost",
    "BadSerial", "BadName", "BadNote", "BadIndex", "BadSize", "BadMessage", "Unread", "BadHosts", "BadLinks",
    "NoLink", "NoFrame", "NotText", "BadState", "BadBlocks", "BadThing", "BadAmount", "BadItem", "BadDesk", "Unasked",
    "BadLot", "BadRoll", "BadAnswer", "BadClient", "Waiting", "Behind", "BadWord", "BadManner",
)
FIELDS = {
    "Wrong": "place", "BadStore": "index", "BadTells": "index", "TooMany": "most", "BadLine": "index",
    "BadSteps": "index", "Stopped": "index",
}


class Errors(unittest.TestCase):
    def test_base(self):
        self.assertEqual(StoreError.__bases__, (ValueError,))

    def test_each_is_a_direct_subclass(self):
        for name in PLAIN + tuple(FIELDS):
            with self.subTest(name):
                self.assertEqual(getattr(errors, name).__bases__, (StoreError,))
                self.assertEqual(getattr(errors, name).__module__, "meetstores.errors")

    def test_there_are_no_others(self):
        self.assertEqual({one.__name__ for one in StoreError.__subclasses__()}, set(PLAIN) | set(FIELDS))

    def test_plain_ones_are_made_of_a_text(self):
        for name in PLAIN:
            with self.subTest(name), self.assertRaises(StoreError):
                raise getattr(errors, name)("why")

    def test_fields(self):
        for name, field in FIELDS.items():
            for value in (0, 7):
                with self.subTest(name, value=value):
                    self.assertEqual(getattr(getattr(errors, name)(value), field), value)
                    self.assertEqual(getattr(getattr(errors, name)(**{field: value}), field), value)
                    self.assertEqual(vars(getattr(errors, name)(value)), {field: value})

    def test_an_index_may_be_none(self):
        for name, field in FIELDS.items():
            if field == "index":
                self.assertIsNone(getattr(errors, name)(None).index)


if __name__ == "__main__":
    unittest.main()
