"""Pages: what a host has written. A deed makes a new page, so the older ones stay as they are."""


class Page:
    """The events, the present editions, the round, the deeds, and the page ahead of the last deed, None at first.

    The round is (number of the first event since it began, its checks).
    """

    def __init__(self, events, editions, begun, deeds, ahead):
        self.events = events
        self.editions = editions
        self.begun = begun
        self.deeds = deeds
        self.ahead = ahead
