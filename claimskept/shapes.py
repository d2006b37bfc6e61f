"""Claims as trees: their shape, and whether what they name is there."""

from claimskept.conditions import OF_ONE_ROW, OF_TWO_ROWS, is_condition, named_columns


def is_names(tree):
    return isinstance(tree, tuple) and all([isinstance(name, str) for name in tree])


def is_refers(tree):
    if len(tree) != 5 or not is_names(tree[2]) or not isinstance(tree[3], str) or not is_names(tree[4]):
        return False
    return len(tree[2]) >= 1 and len(tree[2]) == len(tree[4])


def is_measure(tree):
    if not isinstance(tree, tuple):
        return False
    if len(tree) == 2:
        return tree[0] == "sum" and isinstance(tree[1], str)
    return tree == ("count",)


def is_groups(tree):
    if len(tree) != 6 or not is_names(tree[2]) or not is_measure(tree[3]):
        return False
    return isinstance(tree[4], int) and isinstance(tree[5], int)


def is_claim(tree):
    if not isinstance(tree, tuple) or len(tree) < 3 or not isinstance(tree[1], str):
        return False
    head = tree[0]
    if head == "each" or head == "any":
        return len(tree) == 3 and is_condition(tree[2], OF_ONE_ROW)
    if head == "pairs" or head == "next":
        return len(tree) == 3 and is_condition(tree[2], OF_TWO_ROWS)
    if head == "key":
        return len(tree) == 3 and is_names(tree[2])
    if head == "fixes":
        return len(tree) == 4 and is_names(tree[2]) and is_names(tree[3])
    if head == "refers":
        return is_refers(tree)
    return head == "groups" and is_groups(tree)


# The columns of the claim's own table; what a refers wants of the other one stands by itself.
def own_columns(tree):
    head = tree[0]
    if head == "fixes":
        return tree[2] + tree[3]
    if head == "groups":
        return tree[2] + tree[3][1:]
    if head == "key" or head == "refers":
        return tree[2]
    return named_columns(tree[2])


def has_columns(tables, name, columns):
    if name not in tables:
        return False
    return all([column in tables[name].places for column in columns])


def is_there(tree, tables):
    if not has_columns(tables, tree[1], own_columns(tree)):
        return False
    if tree[0] == "refers":
        return has_columns(tables, tree[3], tree[4])
    if tree[0] == "groups" and tree[3][0] == "sum":
        table = tables[tree[1]]
        return table.columns[table.places[tree[3][1]]][1][0] == "up"
    return True
