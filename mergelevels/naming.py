"""Tables that are equal up to the names of the items."""

from mergelevels.errors import InvalidOrder
from mergelevels.growth import picked
from mergelevels.tables import is_item, is_whole
from mergelevels.trees import tree_of


def is_order(table, value):
    """Whether the value is a tuple that contains each item exactly once."""
    if not isinstance(value, tuple) or len(value) != len(table):
        return False
    return all([is_item(table, item) for item in value]) and len(set(value)) == len(value)


def relabeled(table, order):
    """Returns the table whose item i is item order[i] of the given one."""
    if not is_order(table, order):
        raise InvalidOrder(order)
    return picked(table, order)


def arranged(tree):
    """Returns (shape, items): the tree without names, and its items in the order of their places in the shape."""
    if is_whole(tree):
        return (), (tree,)
    parts = sorted([arranged(part) for part in tree[1:]])
    shapes = [shape for shape, items in parts]
    return (tree[0], *shapes), tuple([item for shape, items in parts for item in items])


def shape_of(table):
    """Returns the tree of the table without the names of the items."""
    shape, items = arranged(tree_of(table))
    return shape


def find_order(one, other):
    """Returns an order that makes one nested table the other one, None if there is none."""
    shape, items = arranged(tree_of(one))
    form, places = arranged(tree_of(other))
    if shape != form:
        return None
    # Items at the same place of the shape correspond to each other.
    origins = dict(zip(places, items))
    return tuple([origins[item] for item in range(len(other))])


def count_exchanges(shape):
    """Returns the number of ways to exchange the items of a shape such that it stays."""
    number = 1
    equal = 0
    before = None
    for part in shape[1:]:
        # Equal parts stand side by side; 1 * 2 * 3 .. is the number of their orders.
        equal = equal + 1 if part == before else 1
        number *= equal * count_exchanges(part)
        before = part
    return number


def count_orders(table):
    """Returns the number of orders that leave a nested table as it is."""
    return count_exchanges(shape_of(table))
