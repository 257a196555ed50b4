"""Passes: rules that go over a text, the first that fits at each step."""

from markseam.errors import NoRule, NoWord
from markseam.rules import Rule
from markseam.signs import last_signs

MOST_RULES = 8


def kept_rules(rules):
    """Tell the rules that a Pass keeps; refuse what is none of them."""
    if rules is None:
        return []
    if not isinstance(rules, list) or len(rules) > MOST_RULES:
        raise NoRule("rules")
    if not all([isinstance(rule, Rule) for rule in rules]):
        raise NoRule("rules")
    return list(rules)


class Pass:
    """Rules, in order, that go over a text once."""

    def __init__(self, rules=None):
        self._rules = kept_rules(rules)

    def rules(self):
        """Tell the rules."""
        return list(self._rules)

    def step(self, written, waiting):
        """Tell the step made here: the rule's number or None, how many signs it takes, what it writes."""
        if not waiting:
            raise NoWord(0)
        for number, rule in enumerate(self._rules):
            if rule.fits(written, waiting):
                return (number, rule.takes(), rule.put())
        return (None, 1, waiting[0])

    def steps(self, text):
        """Tell each step over a text: where it begins, and behind it what step tells."""
        told = []
        reach = self.reach()
        back = self.back()
        written = ""
        at = 0
        while at < len(text):
            # No rule looks farther than this, and whole texts would be copied at each step.
            number, many, put = self.step(written, text[at:at + reach])
            told.append((at, number, many, put))
            written = last_signs(written + put, back)
            at += many
        return told

    def row(self, text):
        """Tell all that is written when the pass goes over a text."""
        return "".join([put for at, number, many, put in self.steps(text)])

    def reach(self):
        """Tell the greatest reach of the rules, 1 of none."""
        return max([rule.reach() for rule in self._rules], default=1)

    def back(self):
        """Tell the greatest back of the rules, 0 of none."""
        return max([rule.back() for rule in self._rules], default=0)

    def __len__(self):
        return len(self._rules)

    def __eq__(self, other):
        return isinstance(other, Pass) and self._rules == other._rules
