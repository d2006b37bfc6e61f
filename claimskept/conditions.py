"""Expressions and conditions: their shape, the columns they name, and what they are for rows.

Where one row is asked about it stands as the first one. What has no value is (), as a missing cell is.
"""

OF_ONE_ROW = ("col",)
OF_TWO_ROWS = ("one", "two")


def is_expression(tree, cell_heads):
    if isinstance(tree, int):
        return True
    if not isinstance(tree, tuple) or len(tree) < 2:
        return False
    if tree[0] == "word" or tree[0] in cell_heads:
        return len(tree) == 2 and isinstance(tree[1], str)
    if tree[0] != "add" and tree[0] != "sub":
        return False
    return len(tree) == 3 and is_expression(tree[1], cell_heads) and is_expression(tree[2], cell_heads)


def is_condition(tree, cell_heads):
    if not isinstance(tree, tuple) or len(tree) < 1:
        return False
    head = tree[0]
    if head == "less" or head == "same":
        return len(tree) == 3 and is_expression(tree[1], cell_heads) and is_expression(tree[2], cell_heads)
    if head == "gone":
        return len(tree) == 2 and is_expression(tree[1], cell_heads)
    if head == "not":
        return len(tree) == 2 and is_condition(tree[1], cell_heads)
    if head != "and" and head != "or":
        return False
    return all([is_condition(part, cell_heads) for part in tree[1:]])


def named_columns(tree):
    if isinstance(tree, int) or tree[0] == "word":
        return []
    if tree[0] in OF_ONE_ROW or tree[0] in OF_TWO_ROWS:
        return [tree[1]]
    names = []
    for part in tree[1:]:
        names.extend(named_columns(part))
    return names


def reckoned(head, left, right):
    if not isinstance(left, int) or not isinstance(right, int):
        return ()
    if head == "add":
        return left + right
    return left - right if left >= right else ()


def value_of(tree, places, first, second):
    if isinstance(tree, int):
        return tree
    head = tree[0]
    if head == "word":
        return tree[1]
    if head == "two":
        return second[places[tree[1]]]
    if head == "add" or head == "sub":
        left = value_of(tree[1], places, first, second)
        return reckoned(head, left, value_of(tree[2], places, first, second))
    return first[places[tree[1]]]


def compares(head, left, right):
    if head == "less":
        return isinstance(left, int) and isinstance(right, int) and left < right
    return left != () and left == right


# Stops at the first part that settles an and or an or, as parts may be many and rows too.
def holds(tree, places, first, second):
    head = tree[0]
    if head == "not":
        return not holds(tree[1], places, first, second)
    if head == "and" or head == "or":
        for part in tree[1:]:
            if holds(part, places, first, second) == (head == "or"):
                return head == "or"
        return head == "and"
    left = value_of(tree[1], places, first, second)
    if head == "gone":
        return left == ()
    return compares(head, left, value_of(tree[2], places, first, second))
