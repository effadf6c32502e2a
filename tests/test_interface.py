"""The section "The interface": every name stands in its module, with its arguments."""

import importlib
import inspect
import unittest

# The arguments of each function, after the point that describes it.
FUNCTIONS = {
    "tables": "find_fault(value) level_of(table,one,other) levels_of(table) is_nested(table) uneven_items(table)",
    "below": """
        join_level(table,one,other) nested_below(table) best_path(table,one,other) best_division(table,one,other)
        check_join(table,one,other,value) detour_level(table,one,other) select_pairs(table,**limits)
    """,
    "groups": "groups_at(table,level) clusters_of(table) joins_of(table) walk_groups(table)",
    "trees": "tree_of(table) table_of(tree) is_tree(value)",
    "spanning": """
        least_tree(table) is_least_tree(table,value) tree_levels(table,value) count_least_trees(table)
        sure_pairs(table) possible_pairs(table) least_trees(table)
    """,
    "deviations": """
        deviation_between(table,value) greatest_gap(table) least_deviation(table) nearest_table(table)
        nested_within(table,most) deviation_certificate(table) check_deviation(table,value)
    """,
    "orders": """
        is_below(one,other) greatest_of(one,*others) below_all(one,*others) common_clusters(one,*others)
        has_same_groups(one,other) ranked(table) regraded(table,value)
    """,
    "opens": """
        find_open_fault(value) contradiction_of(table) check_contradiction(table,value) greatest_filling(table)
        level_range(table,one,other) forced_pairs(table)
    """,
    "growth": """
        with_item(table,nearest,level) row_fault(table,row) without_item(table,item) selected(table,*items)
        side_by_side(one,other,level) glued(one,other,shared) set_level(table,one,other,level)
    """,
    "naming": "relabeled(table,order) shape_of(table) find_order(one,other) count_orders(table)",
    "counting": "count_nested(count,levels,*,every=False)",
    "texts": "format_table(table) format_tree(tree) parse_table(value)",
}
METHODS = {
    ("boards", "Board"): """
        __init__(self,table) change(self,one,other,level) add(self,row) drop(self,item) undo(self)
        run(self,batch,*,on_step=None) log(self) cut_at(self,value) __call__(self,level) __contains__(self,value)
        table(self) nested(self) joins(self) walk(self) actions(self) state_at(self,step) copy(self)
        __len__(self) __eq__(self,other) __str__(self)
    """,
    ("boards", "NestedBoard"): "__init__(self,table)",
    ("consoles", "Console"): "__init__(self,board) execute(self,line) transcript(self)",
}


def shown(name, function):
    """The name and the arguments of a function."""
    return name + str(inspect.signature(function)).replace(" ", "")


class TestInterface(unittest.TestCase):
    def module(self, name):
        return importlib.import_module(f"mergelevels.{name}")

    def test_functions(self):
        for home, listed in FUNCTIONS.items():
            for wanted in listed.split():
                name = wanted.partition("(")[0]
                function = getattr(self.module(home), name)
                self.assertEqual(shown(name, function), wanted)
                self.assertEqual(function.__module__, f"mergelevels.{home}")

    def test_methods(self):
        for (home, kind), listed in METHODS.items():
            for wanted in listed.split():
                name = wanted.partition("(")[0]
                self.assertEqual(shown(name, vars(getattr(self.module(home), kind))[name]), wanted)

    def test_properties_and_methods_of_the_class(self):
        board = self.module("boards").Board
        for name in ("cut", "groups", "top"):
            self.assertIsInstance(vars(board)[name], property)
        self.assertEqual(shown("read", board.read), "read(text)")
        self.assertEqual(shown("single", board.single), "single()")
        self.assertEqual(shown("size_of", board.size_of), "size_of(name)")
        self.assertEqual(board.LIMIT, 60)

    def test_generators(self):
        for function in (self.module("groups").walk_groups, self.module("spanning").least_trees,
                         self.module("boards").Board.walk):
            self.assertTrue(inspect.isgeneratorfunction(function))

    def test_limits(self):
        bounds = self.module("bounds")
        self.assertEqual((bounds.ITEMS, bounds.LEVEL, bounds.GRADES, bounds.BATCH), (12, 10 ** 12, 60, 20))


if __name__ == "__main__":
    unittest.main()
