"""The refined grammar: places for nonterminals, so that no forbidden child is left to be looked for."""

from treefilters.grammars import NONTERMINAL


def told_places(places):
    """How many places, and for each its nonterminal, how many rules are forbidden to it, and they."""
    told = [len(places.listed)]
    for place in places.listed:
        told.extend([place[0], len(place[1])])
        told.extend(place[1])
    return told


def told_rule(rule, place, places_of_symbols):
    """The rule as a grammar row tells rules, with places in the stead of nonterminals."""
    told = [place, len(rule.symbols)]
    for symbol, other in zip(rule.symbols, places_of_symbols):
        told.extend(symbol if other is None else (NONTERMINAL, other))
    return told


def told_refined(grammar, places):
    """The refined grammar's row, and behind it the rule that each of its rules comes from."""
    rules = []
    sources = []
    for place, members in enumerate(places.members):
        for r in members:
            rules.extend(told_rule(grammar.rules[r], place, places.of_symbols[r]))
            sources.append(r)
    return [len(places.listed), len(sources)] + rules + sources
