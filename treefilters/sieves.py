"""Filters, and how a filter row tells them.

A filter is a tuple: FORBIDDEN_CHILD, r, m, s; or FOLLOWED, a, lo, hi; or WORD, a and the tuple of the
word's bytes.
"""

from treefilters.grammars import LAST_BYTE, NONTERMINAL
from treefilters.refusals import BadRow
from treefilters.rows import Row

FORBIDDEN_CHILD = 0
FOLLOWED = 1
WORD = 2
MOST_FILTERS = 48
LONGEST_WORD = 8


def take_forbidden_child(row, rules):
    r = row.take_between(0, len(rules) - 1)
    m = row.take_between(0, len(rules[r].symbols) - 1)
    s = row.take_between(0, len(rules) - 1)
    if rules[r].symbols[m] != (NONTERMINAL, rules[s].nonterminal):
        raise BadRow()
    return (FORBIDDEN_CHILD, r, m, s)


def take_filter(row, grammar):
    kind = row.take_between(FORBIDDEN_CHILD, WORD)
    if kind == FORBIDDEN_CHILD:
        return take_forbidden_child(row, grammar.rules)
    nonterminal = row.take_between(0, grammar.nonterminals - 1)
    if kind == FOLLOWED:
        low = row.take_between(0, LAST_BYTE)
        high = row.take_between(low, LAST_BYTE)
        return (FOLLOWED, nonterminal, low, high)
    length = row.take_between(0, LONGEST_WORD)
    word = [row.take_between(0, LAST_BYTE) for k in range(length)]
    return (WORD, nonterminal, tuple(word))


def filters_of(numbers, grammar):
    """The filters that a filter row of the grammar tells; any other row is refused."""
    row = Row(numbers)
    length = row.take_between(0, MOST_FILTERS)
    filters = [take_filter(row, grammar) for f in range(length)]
    row.finish()
    return filters


def row_of_filters(filters):
    """The filter row that tells the filters."""
    row = [len(filters)]
    for sieve in filters:
        if sieve[0] == WORD:
            row.extend([WORD, sieve[1], len(sieve[2])])
            row.extend(sieve[2])
        else:
            row.extend(sieve)
    return row


def pieces_followed(text, low, high):
    """The pieces that a byte from low to high follows."""
    pieces = []
    for j, byte in enumerate(text):
        if low <= byte <= high:
            pieces.extend([(i, j) for i in range(j + 1)])
    return pieces


def pieces_of_word(text, word):
    """The pieces that have just the word's bytes."""
    length = len(word)
    last = len(text) - length
    return [(i, i + length) for i in range(last + 1) if tuple(text[i:i + length]) == word]


def banned_nodes(text, filters):
    """A dict whose keys a, i, j are the nodes that no passing tree has, whatever stands around them."""
    banned = {}
    for sieve in filters:
        pieces = []
        if sieve[0] == FOLLOWED:
            pieces = pieces_followed(text, sieve[2], sieve[3])
        if sieve[0] == WORD:
            pieces = pieces_of_word(text, sieve[2])
        for piece in pieces:
            banned[(sieve[1], piece[0], piece[1])] = True
    return banned


def is_broken(sieve, met, text):
    """Whether a tree breaks the filter, among those whose spots and links are met (by a Walk or a Reach)."""
    if sieve[0] == FORBIDDEN_CHILD:
        return met.has_link(sieve[1], sieve[2], sieve[3])
    return any([met.has_spot(node[0], node[1], node[2]) for node in banned_nodes(text, [sieve])])


def first_broken(filters, met, text):
    """The number of the first filter that is broken, None if there is none."""
    for f, sieve in enumerate(filters):
        if is_broken(sieve, met, text):
            return f
    return None
