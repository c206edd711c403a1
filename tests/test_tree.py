import copy
import unittest

from signbench.errors import BenchError, NoNode
from signbench.tree import Tree
from tests.things import Numbers, lists_in, same_kinds, spoil_lists


class PlainTree:
    """The words of the document once more: all nodes where one stood are kept, and again looks back along them."""

    def __init__(self):
        self.above = {0: None}
        self.deeds = {}
        self.stood = [0]

    def at(self):
        return self.stood[-1]

    def way(self, number):
        return [] if number == 0 else self.way(self.above[number]) + [number]

    def do(self, deed):
        number = len(self.above)
        self.above[number] = self.at()
        self.deeds[number] = deed
        self.stood.append(number)

    def undo(self):
        if self.at() == 0:
            raise NoNode
        self.stood.append(self.above[self.at()])

    def again(self):
        depth = len(self.way(self.at()))
        for number in reversed(self.stood):
            way = self.way(number)
            if len(way) > depth and ([0] + way)[depth] == self.at():
                self.stood.append(way[depth])
                return
        raise NoNode

    def go(self, number):
        if number not in self.above:
            raise NoNode
        self.stood.append(number)

    def told(self):
        path = [self.deeds[number] for number in self.way(self.at())]
        return self.at(), path, [number for number in sorted(self.above) if self.above[number] == self.at()]


def told_of(tree):
    return tree.here(), tree.path(), tree.under()


def tree_of(moves):
    """A tree along which one went by these moves: a text is a deed done, a number gone to, None undone."""
    tree = Tree()
    for move in moves:
        if isinstance(move, str):
            tree.do((move,))
        elif move is None:
            tree.undo()
        else:
            tree.go(move)
    return tree


class TreeOfDeeds(unittest.TestCase):
    def refused(self, tree, call, *handed):
        before = told_of(tree)
        with self.assertRaises(NoNode) as caught:
            call(*handed)
        self.assertIsInstance(caught.exception, BenchError)
        self.assertTrue(same_kinds(told_of(tree), before))

    def test_the_root(self):
        self.assertTrue(same_kinds(told_of(Tree()), (0, [], [])))

    def test_do(self):
        tree = Tree()
        self.assertEqual(tree.do(("a",)), 1)
        self.assertEqual(tree.do(("b", 2)), 2)
        self.assertEqual(told_of(tree), (2, [("a",), ("b", 2)], []))

    def test_any_tuple_is_a_deed(self):
        deeds = [(), (1,), (None,), (True, False), ("a", [1, (2, [3])]), (0,) * 19000, (((((((())))))))]
        tree = Tree()
        for number, deed in enumerate(deeds, 1):
            self.assertEqual(tree.do(deed), number)
        self.assertTrue(same_kinds(tree.path(), deeds))

    def test_undo(self):
        tree = tree_of("ab")
        self.assertEqual(tree.undo(), 1)
        self.assertEqual(told_of(tree), (1, [("a",)], [2]))
        self.assertEqual(tree.undo(), 0)
        self.assertEqual(told_of(tree), (0, [], [1]))

    def test_undo_at_the_root(self):
        for tree in (Tree(), tree_of(["a", None]), tree_of(["a", "b", 0])):
            self.refused(tree, tree.undo)

    def test_again(self):
        tree = tree_of(["a", "b", None, None])
        self.assertEqual(tree.again(), 1)
        self.assertEqual(tree.again(), 2)
        self.assertEqual(told_of(tree), (2, [("a",), ("b",)], []))
        self.refused(tree, tree.again)

    def test_again_where_nothing_is_under(self):
        for tree in (Tree(), tree_of("a"), tree_of(["a", None, "b"])):
            self.refused(tree, tree.again)

    def test_a_new_branch_leaves_the_other_one(self):
        tree = tree_of(["a", None, "b"])
        self.assertEqual(told_of(tree), (2, [("b",)], []))
        tree.undo()
        self.assertEqual(tree.under(), [1, 2])
        self.assertEqual(tree.again(), 2)
        tree.go(1)
        self.assertEqual(tree.path(), [("a",)])

    def test_again_behind_go_to_another_branch(self):
        tree = tree_of(["a", None, "b", None])
        tree.go(1)
        tree.undo()
        self.assertEqual(tree.again(), 1)
        tree.go(2)
        tree.go(0)
        self.assertEqual(tree.again(), 2)

    def test_again_where_one_stood_last_beneath(self):
        # 1 and 4 are under the root, 2 and 3 under 1.
        tree = tree_of(["a", "b", None, "c", 0, "d"])
        tree.go(2)
        tree.go(0)
        self.assertEqual(tree.again(), 1)
        self.assertEqual(tree.again(), 2)
        tree.go(4)
        tree.go(1)
        self.assertEqual(tree.again(), 2)
        tree.go(3)
        tree.go(4)
        tree.go(0)
        self.assertEqual(tree.again(), 4)
        tree.go(1)
        self.assertEqual(tree.again(), 3)

    def test_one_stood_where_one_only_came_by_go(self):
        tree = tree_of(["a", "b", "c", 0, "d", 0])
        tree.go(3)
        tree.undo()
        tree.undo()
        tree.undo()
        self.assertEqual([tree.again(), tree.again(), tree.again()], [1, 2, 3])

    def test_go(self):
        tree = tree_of(["a", "b", 0, "c"])
        for number, path in ((0, []), (1, ["a"]), (2, ["a", "b"]), (3, ["c"]), (3, ["c"])):
            self.assertEqual(tree.go(number), number)
            self.assertEqual(tree.here(), number)
            self.assertEqual(tree.path(), [(word,) for word in path])

    def test_go_to_nodes_that_are_not_there(self):
        for tree in (Tree(), tree_of("abc"), tree_of(["a", "b", None])):
            many = len(tree.above)
            for number in (-1, -2, -many, many, many + 1, 10 ** 59, -10 ** 59):
                self.refused(tree, tree.go, number)

    def test_a_refused_call_does_not_count_as_standing_there(self):
        tree = tree_of(["a", None, "b", 1])
        self.refused(tree, tree.go, 3)
        self.refused(tree, tree.again)
        tree.undo()
        self.refused(tree, tree.undo)
        self.assertEqual(tree.again(), 1)
        tree.do(("c",))
        self.assertEqual(tree.here(), 3)

    def test_under_rises(self):
        tree = tree_of(["a", None, "b", None, "c", "d", 0, "e", 1, "f", 0])
        self.assertEqual(tree.under(), [1, 2, 3, 5])
        tree.go(1)
        self.assertEqual(tree.under(), [6])

    def test_two_hundred_deeds(self):
        tree = Tree()
        for number in range(1, 201):
            self.assertEqual(tree.do((number,)), number)
        self.assertEqual(tree.path(), [(number,) for number in range(1, 201)])
        for number in reversed(range(200)):
            self.assertEqual(tree.undo(), number)
        for number in range(1, 201):
            self.assertEqual(tree.again(), number)
        self.refused(tree, tree.again)

    def test_moves_by_chance(self):
        numbers = Numbers(31)
        for each in range(60):
            tree, plain = Tree(), PlainTree()
            for other in range(1 + numbers.below(90)):
                self.move(tree, plain, numbers.below(7), numbers.below(len(plain.above) + 2) - 1)
                self.assertTrue(same_kinds(told_of(tree), plain.told()))

    def move(self, tree, plain, which, number):
        name = ("do", "do", "undo", "undo", "again", "again", "go")[which]
        handed = {"do": [("deed", len(plain.above))], "go": [number]}.get(name, [])
        try:
            getattr(plain, name)(*handed)
        except NoNode:
            self.refused(tree, getattr(tree, name), *handed)
        else:
            self.assertEqual(getattr(tree, name)(*handed), plain.at())


class HandedInAndTold(unittest.TestCase):
    def deed(self):
        inner = [1, [2]]
        return (inner, inner, (inner, []))

    def test_what_was_handed_in_stays_and_may_be_changed(self):
        deed = self.deed()
        tree = Tree()
        tree.do(deed)
        self.assertTrue(same_kinds(deed, self.deed()))
        spoil_lists(deed)
        self.assertTrue(same_kinds(tree.path(), [self.deed()]))

    def test_what_was_told_is_the_askers_own(self):
        tree = Tree()
        deed = self.deed()
        tree.do(deed)
        tree.do(deed)
        told = [tree.path(), tree.path()]
        lists = [id(found) for each in told for found in lists_in(each)]
        self.assertEqual(len(lists), len(set(lists)))
        self.assertFalse(set(lists) & {id(found) for found in lists_in(deed)})
        for each in told:
            spoil_lists(each)
        self.assertTrue(same_kinds(tree.path(), [self.deed(), self.deed()]))
        self.assertTrue(same_kinds(deed, self.deed()))

    def test_what_is_done_to_under_changes_nothing(self):
        tree = tree_of(["a", None, "b", None])
        tree.under().clear()
        tree.under().append(9)
        self.assertEqual(tree.under(), [1, 2])
        self.assertEqual(tree.again(), 2)

    def test_what_was_told_is_not_changed_later(self):
        tree = tree_of(["a", None])
        told = tree.path(), tree.under()
        kept = copy.deepcopy(told)
        tree.do(("b",))
        tree.do(("c",))
        tree.undo()
        self.assertEqual(told, kept)

    def test_two_trees_know_nothing_of_one_another(self):
        first, second = Tree(), Tree()
        first.do(("a",))
        first.undo()
        self.assertEqual(told_of(second), (0, [], []))
        with self.assertRaises(NoNode):
            second.again()
        self.assertEqual(second.do(("b",)), 1)
        self.assertEqual(first.again(), 1)
        self.assertEqual(first.path(), [("a",)])


if __name__ == "__main__":
    unittest.main()
