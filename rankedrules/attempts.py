"""Attempts: what is changed in the rows of a `with` statement stays only if they end well."""


class Attempt:
    """An attempt with a court or a desk, for one `with` statement."""

    def __init__(self, keeper):
        self._keeper = keeper
        self._held = None

    def __enter__(self):
        self._held = self._keeper._states
        return self._keeper

    def __exit__(self, kind, value, trace):
        if kind is not None:
            self._keeper._states = self._held
