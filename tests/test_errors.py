import unittest

from postvote import errors

PLAIN = (
    "NoChange", "Beaten", "BadVector", "BadPrices", "TooGreat", "TooManyEdits", "LastOne", "NothingToUndo",
    "BadEdits", "Busy",
)
FIELDS = {
    "BadPosts": ("value",),
    "NoUnbeaten": ("crowded", "reserves"),
    "BadNumber": ("value",),
    "BadList": ("value",),
    "TooMany": ("limit",),
    "BadInstance": ("path", "reason"),
    "BadEdit": ("index",),
    "Rejected": ("index",),
    "BadText": ("index",),
    "NoPost": ("value",),
    "NoGroup": ("value",),
    "NoVersion": ("value",),
}
LOOKUPS = ("NoPost", "NoGroup", "NoVersion")
VALUES = (None, True, 0, -5, 10 ** 30, "text\n", (0, (1, True)), [1, [2]], {"a": (None,)})


class Errors(unittest.TestCase):
    def test_the_base_is_a_value_error(self):
        self.assertEqual(errors.VoteError.__bases__, (ValueError,))

    def test_bases(self):
        for name in (*PLAIN, *FIELDS):
            kind = getattr(errors, name)
            base = LookupError if name in LOOKUPS else errors.VoteError
            self.assertEqual(kind.__bases__, (base,), name)
            self.assertEqual(issubclass(kind, ValueError), name not in LOOKUPS, name)
            self.assertEqual(issubclass(kind, LookupError), name in LOOKUPS, name)

    def test_none_derives_from_another(self):
        kinds = [getattr(errors, name) for name in (*PLAIN, *FIELDS)]
        self.assertEqual(len(set(kinds)), 22)
        for kind in kinds:
            self.assertEqual([other for other in kinds if issubclass(kind, other)], [kind])

    def test_plain_ones_take_nothing(self):
        for name in PLAIN:
            kind = getattr(errors, name)
            with self.assertRaises(kind) as caught:
                raise kind()
            self.assertEqual(vars(caught.exception), {}, name)

    def test_fields_are_the_very_values(self):
        for name, fields in FIELDS.items():
            kind = getattr(errors, name)
            for at in range(len(VALUES)):
                passed = [VALUES[at - shift] for shift in range(len(fields))]
                with self.assertRaises(kind) as caught:
                    raise kind(*passed)
                self.assertEqual(set(vars(caught.exception)), set(fields))
                for field, value in zip(fields, passed):
                    self.assertIs(getattr(caught.exception, field), value, name)

    def test_fields_are_all_needed(self):
        for name, fields in FIELDS.items():
            kind = getattr(errors, name)
            for count in (len(fields) - 1, len(fields) + 1):
                with self.assertRaises(TypeError, msg=name):
                    kind(*[0] * count)
