"""[1.9] to [1.11]."""

import unittest

from listasks.stores import Store, check_heads, columns_of, row_kind
from tests.helping import listed, refusal

HEADS = (("dept", (("name", "text"),)), ("emp", (("age", "int"), ("boss", "truth"), ("who", "text"))))


def couples(count):
    return tuple((letter, "int") for letter in "abcdefgh"[:count])


class HeadsTest(unittest.TestCase):
    def test_good_heads(self):
        self.assertEqual(check_heads(HEADS), HEADS)
        self.assertEqual(check_heads(listed(HEADS)), HEADS)
        turned = [["emp", [["who", "text"], ["age", "int"], ["boss", "truth"]]], ("dept", [("name", "text")])]
        kept = listed(turned)
        self.assertEqual(check_heads(turned), HEADS)
        self.assertEqual(listed(turned), kept)
        five = tuple((table, couples(5)) for table in "abcde")
        self.assertEqual(check_heads(five), five)
        self.assertEqual(check_heads((("t", couples(1)),)), (("t", couples(1)),))

    def test_many(self):
        six = tuple((table, couples(1)) for table in "abcdef")
        for heads in ((), [], None, "ab", 5, {"t": couples(1)}, six):
            self.assertEqual(refusal(check_heads, heads), ("BadHeads", -1, "many"), heads)

    def fault(self, item):
        """The word for an item that stands behind a good one."""
        name, at, what = refusal(check_heads, [("good", couples(1)), item, "bad too"])
        self.assertEqual((name, at), ("BadHeads", 1))
        return what

    def test_shape(self):
        for item in (None, "ab", (), ("t",), ("t", couples(1), 1), ("t", None), ("t", "ab"), ("T", {}), 7):
            self.assertEqual(self.fault(item), "shape")

    def test_name(self):
        for item in (("T", couples(1)), (1, ()), ("", couples(6)), (None, [None]), (["t"], couples(1))):
            self.assertEqual(self.fault(item), "name")

    def test_columns(self):
        self.assertEqual(self.fault(("t", ())), "columns")
        self.assertEqual(self.fault(("t", couples(6))), "columns")
        self.assertEqual(self.fault(("t", [None] * 6)), "columns")
        self.assertEqual(self.fault(("good", [])), "columns")

    def test_column(self):
        for columns in (("ab",), (None,), (("a",),), (("a", "int", 1),), (("A", "int"),), ((1, "int"),),
                        (("a", "bool"),), (("a", ("list", "int")),), (("a", ["int"]),), (("a", None),),
                        (("a", "int"), ("a", "text")), (("b", "int"), ("a", "int"), ("b", "int"))):
            self.assertEqual(self.fault(("t", columns)), "column")
            self.assertEqual(self.fault(("good", columns)), "column")

    def test_double(self):
        self.assertEqual(self.fault(("good", couples(2))), "double")

    def test_columns_of_and_row_kind(self):
        self.assertEqual(columns_of(HEADS, "emp"), HEADS[1][1])
        self.assertEqual(row_kind(HEADS, "dept"), ("record", (("name", "text"),)))
        self.assertEqual(row_kind(HEADS, "emp"), ("record", HEADS[1][1]))
        for table in ("who", "", None):
            self.assertEqual(refusal(columns_of, HEADS, table), ("NoTable", table))
            self.assertEqual(refusal(row_kind, HEADS, table), ("NoTable", table))
        lists = listed(HEADS)
        told = columns_of(lists, "emp"), row_kind(lists, "emp")
        lists[1][1][0][0] = "other"
        self.assertEqual(told, (HEADS[1][1], ("record", HEADS[1][1])))


class StoreTest(unittest.TestCase):
    def setUp(self):
        self.store = Store(listed(HEADS))
        self.store.put("dept", ("a",))
        self.store.put("emp", [41, True, "ann"])
        self.store.put("emp", (-3, False, ""))

    def test_a_new_store(self):
        store = Store(HEADS)
        self.assertEqual(store.heads, HEADS)
        self.assertEqual(len(store), 0)
        for table in ("dept", "emp"):
            self.assertEqual((store.rows_of(table), store.following(table)), ((), 1))
        self.assertEqual(refusal(Store, ()), ("BadHeads", -1, "many"))
        self.assertEqual(refusal(Store, [("t", ())]), ("BadHeads", 0, "columns"))

    def test_put(self):
        self.assertEqual(self.store.put("emp", [41, True, "ann"]), 3)
        self.assertEqual(self.store.put("dept", ["b"]), 2)
        self.assertEqual(self.store.rows_of("emp"),
                         ((1, (41, True, "ann")), (2, (-3, False, "")), (3, (41, True, "ann"))))
        self.assertEqual(self.store.following("emp"), 4)
        self.assertEqual(len(self.store), 5)

    def test_put_keeps_no_list(self):
        cells = ["b"]
        self.store.put("dept", cells)
        self.assertEqual(cells, ["b"])
        cells[0] = "c"
        self.assertEqual(self.store.rows_of("dept")[1], (2, ("b",)))

    def test_put_is_refused(self):
        before = self.store.copied()
        cases = (
            (("none", (1, True, "a")), ("NoTable", "none")), (("none", None), ("NoTable", "none")),
            (("emp", None), ("BadRow", -1)), (("emp", ()), ("BadRow", -1)), (("emp", "abc"), ("BadRow", -1)),
            (("emp", (1, True)), ("BadRow", -1)), (("emp", (1, True, "a", 1)), ("BadRow", -1)),
            (("emp", (True, True, "a")), ("BadRow", 0)), (("emp", (10 ** 30, 1, 1)), ("BadRow", 0)),
            (("emp", (1, 1, "a")), ("BadRow", 1)), (("emp", (1, None, 1)), ("BadRow", 1)),
            (("emp", (1, True, "%")), ("BadRow", 2)), (("emp", (1, True, "abcdefghijklm")), ("BadRow", 2)),
            (("emp", {1: 2, 3: 4, 5: 6}), ("BadRow", -1)),
        )
        for given, expected in cases:
            self.assertEqual(refusal(self.store.put, *given), expected, given)
        self.assertEqual(self.store, before)
        self.assertEqual(self.store.following("emp"), 3)

    def test_no_number_is_given_twice(self):
        self.assertEqual(self.store.take("emp", 2), (-3, False, ""))
        self.assertEqual(self.store.following("emp"), 3)
        self.assertEqual(self.store.put("emp", (1, True, "")), 3)
        self.assertEqual(self.store.take("emp", 3), (1, True, ""))
        self.assertEqual(self.store.take("emp", 1), (41, True, "ann"))
        self.assertEqual((self.store.rows_of("emp"), self.store.following("emp")), ((), 4))
        self.assertEqual(self.store.put("emp", (1, True, "")), 4)
        self.assertEqual(len(self.store), 2)

    def test_take_is_refused(self):
        before = self.store.copied()
        for number in (0, 3, -1, True, "1", None, 1.5, (1,), [1]):
            self.assertEqual(refusal(self.store.take, "emp", number), ("NoRow", "emp", number))
        self.assertEqual(refusal(self.store.take, "none", 1), ("NoTable", "none"))
        self.assertEqual(refusal(self.store.take, "none", None), ("NoTable", "none"))
        self.store.take("emp", 1)
        self.assertEqual(refusal(self.store.take, "emp", 1), ("NoRow", "emp", 1))
        self.assertEqual(before.rows_of("dept"), self.store.rows_of("dept"))

    def test_what_is_read(self):
        self.assertEqual(self.store.cell_at("emp", 1, "who"), "ann")
        self.assertEqual(self.store.cell_at("emp", 2, "age"), -3)
        self.assertIs(self.store.cell_at("emp", 1, "boss"), True)
        self.assertEqual(refusal(self.store.cell_at, "none", 9, "none"), ("NoTable", "none"))
        self.assertEqual(refusal(self.store.cell_at, "emp", 9, "none"), ("NoRow", "emp", 9))
        self.assertEqual(refusal(self.store.cell_at, "emp", True, "who"), ("NoRow", "emp", True))
        self.assertEqual(refusal(self.store.cell_at, "emp", 1, "name"), ("NoColumn", "name"))
        self.assertEqual(refusal(self.store.rows_of, "none"), ("NoTable", "none"))
        self.assertEqual(refusal(self.store.following, "none"), ("NoTable", "none"))

    def test_copied(self):
        self.store.put("emp", (0, True, "z"))
        self.store.take("emp", 3)
        other = self.store.copied()
        self.assertEqual(other, self.store)
        self.assertEqual(other.following("emp"), 4)
        other.put("emp", (1, True, "new"))
        other.take("dept", 1)
        self.assertEqual(len(self.store), 3)
        self.assertEqual(self.store.following("emp"), 4)
        self.assertEqual(self.store.rows_of("dept"), ((1, ("a",)),))
        self.store.take("emp", 1)
        self.assertEqual(other.cell_at("emp", 1, "who"), "ann")

    def test_equality(self):
        other = Store(HEADS)
        other.put("emp", (41, True, "ann"))
        other.put("emp", (-3, False, ""))
        self.assertFalse(other == self.store)
        other.put("dept", ("a",))
        self.assertTrue(other == self.store)
        other.take("dept", other.put("dept", ("b",)))
        self.assertTrue(other == self.store)
        self.assertNotEqual(other.following("dept"), self.store.following("dept"))
        other.put("dept", ("b",))
        self.store.put("dept", ("b",))
        self.assertFalse(other == self.store)
        for thing in (None, 1, HEADS, (), "store"):
            self.assertIs(self.store == thing, False)
        self.assertFalse(Store(HEADS) == Store(HEADS[:1]))
        self.assertFalse(Store((("t", couples(1)),)) == Store((("t", couples(2)),)))
        self.assertTrue(Store((("t", couples(2)),)) == Store([["t", listed(couples(2))[::-1]]]))


class FromRowsTest(unittest.TestCase):
    def test_good_lots(self):
        lots = [[5, [[2, ["a"]], (4, ("b",))]], (1, ())]
        kept = listed(lots)
        store = Store.from_rows(listed(HEADS), lots)
        self.assertEqual(listed(lots), kept)
        self.assertEqual(store.rows_of("dept"), ((2, ("a",)), (4, ("b",))))
        self.assertEqual((store.following("dept"), store.following("emp")), (5, 1))
        lots[0][1][0][1][0] = "z"
        self.assertEqual(store.cell_at("dept", 2, "name"), "a")
        self.assertEqual(store.put("dept", ("c",)), 5)

    def test_the_order_of_tables_is_that_of_checked_heads(self):
        store = Store.from_rows((HEADS[1], HEADS[0]), ((2, ((1, ("a",)),)), (1, ())))
        self.assertEqual(store.rows_of("dept"), ((1, ("a",)),))

    def test_bad_heads_come_first(self):
        self.assertEqual(refusal(Store.from_rows, (), None), ("BadHeads", -1, "many"))
        self.assertEqual(refusal(Store.from_rows, [("t", ())], None), ("BadHeads", 0, "columns"))

    def test_bad_lots(self):
        good = (1, ())
        bad = (
            None, 1, "ab", (), [good], [good] * 3, {},
            [None, good], ["ab", good], [(1,), good], [(1, (), ()), good], [(1, None), good], [(1, "ab"), good],
            [good, 5], [(0, ()), good], [(-1, ()), good], [(True, ()), good], [("1", ()), good], [(None, ()), good],
            [(2, (None,)), good], [(2, ((1,),)), good], [(2, ((1, ("a",), 1),)), good],
            [(2, ((True, ("a",)),)), good], [(2, ((0, ("a",)),)), good], [(2, (("1", ("a",)),)), good],
            [(2, ((2, ("a",)),)), good], [(1, ((1, ("a",)),)), good], [(1, ((2, ("a",)),)), good],
            [(9, ((2, ("a",)), (2, ("a",)))), good], [(9, ((3, ("a",)), (2, ("a",)))), good],
            [(9, ((1, (1,)),)), good], [(9, ((1, ()),)), good], [(9, ((1, "a"),)), good],
            [(9, ((1, ("a", "b")),)), good], [(9, ((1, ("%",)),)), good], [(9, ((1, None),)), good],
            [good, (9, ((1, (1, 1, "a")),))],
        )
        for lots in bad:
            self.assertEqual(refusal(Store.from_rows, HEADS, lots), ("BadLots",), lots)


if __name__ == "__main__":
    unittest.main()
