"""Expressions. The tree of one is an integer, the name of a variable, or (sign, left tree, right tree)."""

from whatspeed.words import is_name, read_whole

MOST_WORDS = 40
MOST_OPENED = 6
GREATEST = 999
MODULUS = 1000


def read_expression(words):
    """The tree of an expression; None if the words are none."""
    # Both limits come first: they bound how deep the reading of the tree goes.
    if len(words) > MOST_WORDS or _most_opened(words) > MOST_OPENED:
        return None
    return _read_value(words)


def variables_of(tree):
    """The names of the variables of a tree, as often as they stand there."""
    if isinstance(tree, int):
        return []
    if isinstance(tree, str):
        return [tree]
    _, left, right = tree
    return variables_of(left) + variables_of(right)


def value_of(tree, shared, own):
    """The value of a tree; shared has the values of the cells, own those of the other variables (0 if not there)."""
    if isinstance(tree, int):
        return tree
    if isinstance(tree, str):
        return shared[tree] if tree in shared else own.get(tree, 0)
    sign, left, right = tree
    return _worked_out(sign, value_of(left, shared, own), value_of(right, shared, own))


def _worked_out(sign, left, right):
    if sign == "+":
        return (left + right) % MODULUS
    if sign == "-":
        return (left - right) % MODULUS
    if sign == "*":
        return (left * right) % MODULUS
    if sign == "=":
        return int(left == right)
    return int(left < right) if sign == "<" else int(left > right)


def _most_opened(words):
    depth = most = 0
    for word in words:
        if word == "(":
            depth += 1
        elif word == ")":
            depth -= 1
        most = max(most, depth)
    return most


def _last_outside(words, signs):
    """The index of the last of the signs that stands outside of all parentheses; -1 if there is none."""
    depth = 0
    for at in reversed(range(len(words))):
        if words[at] == ")":
            depth += 1
        elif words[at] == "(":
            depth -= 1
        elif depth == 0 and words[at] in signs:
            return at
    return -1


def _joined(sign, left, right):
    if left is None or right is None:
        return None
    return (sign, left, right)


# Sums and products are split at their last sign, because they are worked out from left to right.


def _read_value(words):
    at = _last_outside(words, ("=", "<", ">"))
    if at < 0:
        return _read_sum(words)
    return _joined(words[at], _read_sum(words[:at]), _read_sum(words[at + 1:]))


def _read_sum(words):
    at = _last_outside(words, ("+", "-"))
    if at < 0:
        return _read_product(words)
    return _joined(words[at], _read_sum(words[:at]), _read_product(words[at + 1:]))


def _read_product(words):
    at = _last_outside(words, ("*",))
    if at < 0:
        return _read_factor(words)
    return _joined(words[at], _read_product(words[:at]), _read_factor(words[at + 1:]))


def _read_factor(words):
    if len(words) == 1:
        return words[0] if is_name(words[0]) else read_whole(words[0], 0, GREATEST)
    if len(words) > 2 and words[0] == "(" and words[-1] == ")":
        return _read_value(words[1:-1])
    return None
