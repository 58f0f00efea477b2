"""Builds lists of calls, and parts the answers."""

from treefilters.desk import answers


def load(row):
    return [0, len(row)] + list(row)


def text(some):
    if isinstance(some, str):
        some = [ord(sign) for sign in some]
    return [1, len(some)] + list(some)


def sift(row):
    return [2, len(row)] + list(row)


def reads():
    return [3]


def count(a, i, j):
    return [4, a, i, j]


def tree(a, i, j, k):
    return [5, a, i, j, k]


def passes(a, i, j, nodes):
    return [6, a, i, j, len(nodes)] + list(nodes)


def places():
    return [7]


def refined():
    return [8]


def idle(f):
    return [9, f]


def ambiguous():
    return [10]


def held_filters():
    return [11]


def ask(*calls):
    """The answers, one list for each call."""
    told = answers([number for call in calls for number in call])
    parted = []
    at = 0
    while at < len(told):
        parted.append(told[at + 1:at + 1 + told[at]])
        at += 1 + told[at]
    if at != len(told) or len(parted) != len(calls):
        raise AssertionError(f"badly counted: {told}")
    return parted


def last(*calls):
    return ask(*calls)[-1]


def symbol(sign):
    """A nonterminal's number, a text of one sign, or a tuple of two bytes."""
    if isinstance(sign, int):
        return [0, sign]
    if isinstance(sign, str):
        return [1, ord(sign), ord(sign)]
    return [1, sign[0], sign[1]]


def grammar(nonterminals, *rules):
    """The grammar row of rules told as a nonterminal and its symbols."""
    row = [nonterminals, len(rules)]
    for rule in rules:
        row += [rule[0], len(rule) - 1]
        for sign in rule[1:]:
            row += symbol(sign)
    return row


def filters(*some):
    row = [len(some)]
    for one in some:
        row += one
    return row


SUMS = grammar(1, (0, 0, "+", 0), (0, "a"))

# 0 -> 1 1 | "x" 1, 1 -> 0 | "y" | "z"
PAIRS = grammar(2, (0, 1, 1), (0, "x", 1), (1, 0), (1, "y"), (1, "z"))


def many():
    """A grammar with 20 nonterminals and 60 rules, and 48 filters that make 44 places more."""
    rules = [(k % 20, (k + 1) % 20, (k + 1) % 20) for k in range(60)]
    sieves = []
    for r in range(20):
        first = (r + 1) % 20
        sieves += [[0, r, 0, first], [0, r, 1, first + 20]]
    for r in range(20, 24):
        # The second place of each is there already: rule r - 20 has made it.
        sieves += [[0, r, 0, r + 21], [0, r, 1, r - 19]]
    return grammar(20, *rules), sieves
