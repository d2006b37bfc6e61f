"""Texts, the trees that are read from them, and trees written as texts.

A tree is a whole number, a word (a Python text) or a tuple of trees.
"""

MOST_BYTES = 4000
MOST_DEEP = 40
MOST_NUMBER = 1000000
MOST_WORD = 20
DIGITS = "0123456789"
LETTERS = "ABCDEFGHIJKLMNOPQRSTUVWXYZabcdefghijklmnopqrstuvwxyz"


# Every byte becomes one sign, so that a text's length is still its number of bytes.
# Both blanks become the one blank; bytes that no readable text has become a sign that none has.
def text_of(numbers):
    signs = {10: " "}
    for sign in " ()-." + DIGITS + LETTERS:
        signs[ord(sign)] = sign
    return "".join([signs.get(number, "?") for number in numbers])


def numbers_of(text):
    return [ord(sign) for sign in text]


def is_word(text):
    if len(text) < 1 or len(text) > MOST_WORD or text[0] not in LETTERS:
        return False
    return all([sign in LETTERS or sign in DIGITS or sign in "-." for sign in text])


# Python's int limits how many digits it takes, so the length is asked first.
def is_number(text):
    if len(text) < 1 or len(text) > len(str(MOST_NUMBER)):
        return False
    if not all([sign in DIGITS for sign in text]):
        return False
    return str(int(text)) == text and int(text) <= MOST_NUMBER


def read_leaf(piece):
    if is_word(piece):
        return piece
    if is_number(piece):
        return int(piece)
    return None


# The text's trees, or None if it isn't readable.
def read_trees(text):
    if len(text) > MOST_BYTES:
        return None
    unclosed = [[]]
    for piece in text.replace("(", " ( ").replace(")", " ) ").split():
        if piece == "(":
            unclosed.append([])
            if len(unclosed) > MOST_DEEP + 1:
                return None
        elif piece == ")":
            closed = unclosed.pop()
            if len(unclosed) == 0:
                return None
            unclosed[-1].append(tuple(closed))
        else:
            leaf = read_leaf(piece)
            if leaf is None:
                return None
            unclosed[-1].append(leaf)
    return unclosed[0] if len(unclosed) == 1 else None


# The text's one tree, or None if it isn't readable or isn't one tree.
def read_tree(text):
    trees = read_trees(text)
    if trees is None or len(trees) != 1:
        return None
    return trees[0]


# Trees stand at most as deep as texts that are read, so this calls itself no deeper.
def written(tree):
    if isinstance(tree, tuple):
        return "(" + written_trees(tree) + ")"
    return str(tree)


def written_trees(trees):
    return " ".join([written(tree) for tree in trees])
