"""Trials: blocks behind which what changed in them is as it was."""


class Trial:
    """Keeps the state of a match or a keeper, which is told by one value that never changes, for one block."""

    def __init__(self, held):
        self.held = held
        self.state = None

    def __enter__(self):
        self.state = self.held.state
        return self.held

    def __exit__(self, *told):
        self.held.state = self.state
