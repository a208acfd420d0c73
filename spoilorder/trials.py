"""Trials: what is done to a host in a block, and gone behind it unless it is kept."""


class Trial:
    """A trial of a host; keep() in the block keeps what is done, if no error leaves the block."""

    def __init__(self, host):
        self._host = host
        self._page = None
        self._kept = None

    def __enter__(self):
        self._page = self._host.page
        self._kept = None
        return self

    def __exit__(self, kind, value, trace):
        # Pages never change, so the one from ahead of the block has all that was there, what can be taken back, too.
        if kind is not None or self._kept is None:
            self._host.page = self._page

    def keep(self):
        """Lets the host stay behind the block as it is there."""
        self._kept = True
