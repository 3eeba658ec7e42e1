"""Whether two weaves can be laid apart."""

from flipthreads.errors import OtherSheet, TooGreat
from flipthreads.splits import split


class Meeting:
    """An answer to the question whether two weaves can be laid apart; it never changes.

    `left` and `right` are the weaves.
    """

    def __init__(self, one, other):
        self.left = one
        self.right = other

    @property
    def one(self):
        """The first weave."""
        return self.left

    @property
    def other(self):
        """The second weave."""
        return self.right

    @property
    def apart(self):
        """Whether the weaves are said to be laid apart."""
        return False

    def told(self):
        """Return the word for the answer."""
        return "unknown"

    def holds(self):
        """Tell whether the answer is right."""
        return False

    def __bool__(self):
        return False

    def __repr__(self):
        return f"Meeting({self.told()})"


class Apart(Meeting):
    """The answer that two weaves can be laid apart."""

    def __init__(self, one, other):
        super().__init__(one, other)

    @property
    def one(self):
        """The first weave."""
        return self.left

    @property
    def other(self):
        """The second weave."""
        return self.right

    @property
    def apart(self):
        """Whether the weaves are said to be laid apart."""
        return True

    def told(self):
        """Return the word for the answer."""
        return "apart"

    def holds(self):
        """Tell whether the weaves can be laid apart."""
        try:
            return len(strangers(self.left, self.right)) == 0
        except (OtherSheet, TooGreat):
            return False

    def __bool__(self):
        return True

    def __repr__(self):
        return f"Meeting({self.told()})"


class Crossing(Meeting):
    """The answer that two weaves cross one another, as their sum has a thread too often: `witness`."""

    def __init__(self, one, other, stranger):
        super().__init__(one, other)
        self.witness = stranger

    @property
    def one(self):
        """The first weave."""
        return self.left

    @property
    def other(self):
        """The second weave."""
        return self.right

    @property
    def apart(self):
        """Whether the weaves are said to be laid apart."""
        return False

    @property
    def stranger(self):
        """The thread that the sum has more often than both weaves together."""
        return self.witness

    def told(self):
        """Return the word for the answer."""
        return "crossing"

    def holds(self):
        """Tell whether the sum has the stranger more often than both weaves together."""
        try:
            return self.witness in strangers(self.left, self.right)
        except (OtherSheet, TooGreat):
            return False

    def __bool__(self):
        return False

    def __repr__(self):
        return f"Meeting({self.told()})"


def meet(one, other):
    """Return the right answer for two weaves: an Apart or a Crossing."""
    found = strangers(one, other)
    if len(found) == 0:
        return Apart(one, other)
    return Crossing(one, other, found[0])


def strangers(one, other):
    """Return the list of the threads that the sum of two weaves has more often than both together."""
    found = split(one + other)
    times = {}
    for thread, many in split(one) + split(other):
        counts = tuple(thread.counts())
        times[counts] = times.get(counts, 0) + many
    return [thread for thread, many in found if many > times.get(tuple(thread.counts()), 0)]
