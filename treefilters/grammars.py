"""Grammars, and how a grammar row tells one.

A symbol is a tuple: NONTERMINAL and its number, or RANGE and its bytes lo and hi.
"""

from treefilters.rows import Row

NONTERMINAL = 0
RANGE = 1
START = 0
MOST_NONTERMINALS = 20
MOST_RULES = 60
MOST_SYMBOLS = 8
LAST_BYTE = 255


class Rule:
    """A nonterminal and the symbols that may stand for it."""

    def __init__(self, nonterminal, symbols):
        self.nonterminal = nonterminal
        self.symbols = symbols


class Grammar:
    """So many nonterminals, and the rules in their order."""

    def __init__(self, nonterminals, rules):
        self.nonterminals = nonterminals
        self.rules = rules


def take_symbol(row, nonterminals):
    if row.take_between(NONTERMINAL, RANGE) == NONTERMINAL:
        return (NONTERMINAL, row.take_between(0, nonterminals - 1))
    low = row.take_between(0, LAST_BYTE)
    high = row.take_between(low, LAST_BYTE)
    return (RANGE, low, high)


def take_rule(row, nonterminals):
    nonterminal = row.take_between(0, nonterminals - 1)
    length = row.take_between(0, MOST_SYMBOLS)
    return Rule(nonterminal, [take_symbol(row, nonterminals) for m in range(length)])


def grammar_of(numbers):
    """The grammar that a grammar row tells; any other row is refused."""
    row = Row(numbers)
    nonterminals = row.take_between(1, MOST_NONTERMINALS)
    length = row.take_between(0, MOST_RULES)
    rules = [take_rule(row, nonterminals) for r in range(length)]
    row.finish()
    return Grammar(nonterminals, rules)
