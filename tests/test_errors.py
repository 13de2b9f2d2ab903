"""[0.4] and the list of errors in the interface."""

import unittest

from listasks import errors

ATTRIBUTES = (
    "BadKind; NoPlace steps; NoPath path; BadTerm path what; BadHeads at what; NoTable table; NoRow table number;"
    "NoColumn column; BadRow at; BadLots; BadText place; BadForm what; BadChoices number; BadProgram what;"
    "Unknown at path name; Misfit at path; Unclear at path; NoAnswer; BadChain at word; BadCell cell; NoFit;"
    "BadFamily place member what; TooWide what; BadChange word; BadPlan at word; BadPlans number at word;"
    "BadAnswers place row what; NoSuchPlace place; NoId place own; BadPush place what; BadNumbers place key what;"
    "BadKey; NoKey place key; NotPlain member what; NotAlike; BadFolding what; BadDeed what; Known name;"
    "NoKept name; Refused at"
)


class ErrorsTest(unittest.TestCase):
    def test_each_is_made_of_its_attributes_in_order(self):
        for entry in ATTRIBUTES.split(";"):
            name, *attributes = entry.split()
            with self.subTest(name=name):
                made = getattr(errors, name)
                values = list(range(10, 10 + len(attributes)))
                error = made(*values)
                self.assertEqual([getattr(error, attribute) for attribute in attributes], values)
                self.assertEqual(list(vars(error)), attributes)
                self.assertEqual(made(**dict(zip(attributes, values))).__dict__, error.__dict__)

    def test_all_are_direct_subclasses_of_ask_error(self):
        for entry in ATTRIBUTES.split(";"):
            self.assertEqual(getattr(errors, entry.split()[0]).__bases__, (errors.AskError,))
        self.assertEqual(errors.AskError.__bases__, (ValueError,))

    def test_there_are_no_others(self):
        names = {entry.split()[0] for entry in ATTRIBUTES.split(";")} | {"AskError"}
        self.assertEqual({name for name in vars(errors) if not name.startswith("_")}, names)

    def test_they_can_be_raised_and_caught(self):
        with self.assertRaises(errors.AskError) as caught:
            raise errors.BadTerm((1, 0), "shape")
        self.assertEqual((caught.exception.path, caught.exception.what), ((1, 0), "shape"))
        with self.assertRaises(ValueError):
            raise errors.NoAnswer()


if __name__ == "__main__":
    unittest.main()
