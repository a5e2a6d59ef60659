"""Lists of unlike values out of known ones."""

from itertools import combinations

from coverways.lists import first_wrong, is_list, is_part, is_sorted_part, subsets
from tests.support import WRONG_LISTS, Case


class Lists(Case):
    def test_kinds(self):
        self.assertEqual([is_list([]), is_list(()), is_list([1])], [True, True, True])
        for value in WRONG_LISTS:
            self.assertIs(is_list(value), False)
            self.assertIs(is_part(value, ["0", "1"]), False)
            self.assertIs(is_sorted_part(value, ["0", "1"]), False)

    def test_first_wrong_one(self):
        known = ["a", "b", "c"]
        self.assertEqual([first_wrong([], known), first_wrong(["c", "a"], known), first_wrong(("b",), known)], [None] * 3)
        self.assertEqual([first_wrong(["d"], known), first_wrong(["a", None, "d"], known), first_wrong(["a", "b", "a"], known)],
                         [0, 1, 2])
        self.assertEqual([first_wrong(["a", "a"], known), first_wrong([["a"]], known), first_wrong("abd", known)], [1, 0, 2])

    def test_parts(self):
        known = ["a", "b", "c"]
        self.assertEqual([is_part([], known), is_part(("c", "a"), known), is_part(["a", "a"], known)], [True, True, False])
        self.assertEqual([is_sorted_part(["a", "c"], known), is_sorted_part(("c", "a"), known), is_sorted_part((), known)],
                         [True, False, True])
        self.assertEqual([is_sorted_part(["a", "a"], known), is_sorted_part(["a", "d"], known)], [False, False])

    def test_subsets(self):
        self.assertEqual(subsets([]), [[]])
        told = subsets(["a", "b", "c"])
        self.assertEqual(sorted(told), sorted([list(some) for many in range(4) for some in combinations("abc", many)]))
        for at, some in enumerate(told):
            self.assertFalse(any(set(other) > set(some) for other in told[:at]))
