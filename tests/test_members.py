"""[9.1]."""

import unittest

from listasks.members import FlatQuestion, Member

PARTS = (("dept", "emp"), (("column", 0, "a"),), (("row", 0),), (("part", 1), ("row", 1)), (("number", 3),))


class MembersTest(unittest.TestCase):
    def test_attributes(self):
        member = Member(*PARTS)
        self.assertEqual((member.tables, member.tests, member.outer, member.own, member.cells), PARTS)
        self.assertEqual(member.whole, (("row", 0), ("part", 1), ("row", 1)))
        self.assertEqual(Member((), (), (), (), ()).whole, ())
        question = FlatQuestion(("*", "b"), (member,))
        self.assertEqual((question.place, question.members), (("*", "b"), (member,)))
        self.assertIs(question.members[0], member)

    def test_by_keyword(self):
        member = Member(tables=PARTS[0], tests=PARTS[1], outer=PARTS[2], own=PARTS[3], cells=PARTS[4])
        self.assertEqual(member, Member(*PARTS))
        self.assertEqual(FlatQuestion(place=(), members=(member,)), FlatQuestion((), (member,)))

    def test_equal_members(self):
        self.assertTrue(Member(*PARTS) == Member(*PARTS))
        for at in range(5):
            other = list(PARTS)
            other[at] = ()
            self.assertFalse(Member(*PARTS) == Member(*other))
            self.assertTrue(Member(*PARTS) != Member(*other))
        # the same whole in another way
        self.assertNotEqual(Member(*PARTS[:2], PARTS[2] + PARTS[3], (), PARTS[4]), Member(*PARTS))
        for thing in (PARTS, None, 3, "member", FlatQuestion(PARTS[0], PARTS[1])):
            self.assertIs(Member(*PARTS) == thing, False)

    def test_equal_questions(self):
        one = Member(*PARTS)
        question = FlatQuestion(("*",), (one,))
        self.assertTrue(question == FlatQuestion(("*",), (Member(*PARTS),)))
        for other in (FlatQuestion((), (one,)), FlatQuestion(("*",), ()), FlatQuestion(("*",), (one, one)), one, None,
                      (("*",), (one,))):
            self.assertIs(question == other, False)

    def test_iteration(self):
        one, other = Member(*PARTS), Member((), (), (), (), ())
        question = FlatQuestion((), (one, other))
        self.assertEqual([id(member) for member in question], [id(one), id(other)])
        self.assertEqual(list(question), list(question))
        self.assertEqual(list(FlatQuestion((), ())), [])

    def test_they_are_results(self):
        member = Member(1, 2, (3,), (4,), None)
        self.assertEqual((member.tables, member.tests, member.whole, member.cells), (1, 2, (3, 4), None))
        self.assertEqual(FlatQuestion(None, (7,)).place, None)


if __name__ == "__main__":
    unittest.main()
