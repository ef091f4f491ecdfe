"""Trials: blocks after which the table is as it was before, unless they are kept."""

from piecefacts.errors import TooMany
from piecefacts.state import copied

MOST_TRIALS = 4


class Trial:
    """A block of a table: the state and the depth of trials that the table had before, and whether it is kept."""

    def __init__(self, table):
        self.table = table
        self.state = table.state
        self.depth = table.depth
        # None until keep is called: __exit__ may ask an attribute only whether it is None.
        self.kept = None

    def keep(self):
        """Let all that is done in the block stay, if it ends without an error."""
        self.kept = True

    def __enter__(self):
        if self.table.depth >= MOST_TRIALS:
            raise TooMany(MOST_TRIALS)
        self.state = self.table.state
        self.depth = self.table.depth
        self.kept = None
        # The block works on a copy, so that what stands here stays as it is.
        self.table.state = copied(self.state)
        self.table.depth = self.depth + 1
        return self

    def __exit__(self, kind, value, trace):
        self.table.depth = self.depth
        if kind is not None or self.kept is None:
            self.table.state = self.state
