"""What stands on a desk."""

from markseam.case import Case
from markseam.script import Script


class Stock:
    """Shapers by names, pages by names, and the ranks of marks."""

    def __init__(self):
        self.shapers = {}
        self.pages = {}
        self.ranks = {}

    def case_now(self):
        """Tell the Case of the ranks as they stand now."""
        return Case(self.ranks)

    def script_of(self, name):
        """Tell the Script of the ranks and of the shaper of a name as they stand now."""
        return Script(self.case_now(), self.shapers[name])
