"""Histories: the changes of a replica in their order, and the entries that come of them."""

from dirservice.replaying import Replay

# How many changes lie between two kept states.
STEP = 16


class History:
    """Changes in ascending order of stamps, behind those that were forgotten."""

    def __init__(self, schema):
        self._changes = []
        # The state before all changes, and those after each STEP changes.
        self._states = [Replay(schema)]
        self._done = 0
        self._now = Replay(schema)

    @property
    def rows(self):
        """The changes."""
        return tuple(self._changes)

    @property
    def now(self):
        """The state after all changes, a Replay. Others only read it."""
        return self._now

    def put_in(self, changes):
        """Puts changes, a list with at least one, at their places."""
        first = min([change.stamp for change in changes])
        self.go_back(len([change for change in self._changes if change.stamp < first]))
        self._changes = sorted(self._changes + changes, key=stamp_of)
        self.go_on()

    def go_back(self, count):
        """Goes back to a state that was kept after at most so many changes, if more were replayed."""
        if count < self._done:
            self._states = self._states[:count // STEP + 1]
            self._done = (len(self._states) - 1) * STEP
            self._now = self._states[-1].twin()

    def go_on(self):
        """Replays the changes that were not replayed yet."""
        waiting = self._changes[self._done:]
        for change in waiting:
            self._now.replay(change)
            self._done += 1
            if self._done == len(self._states) * STEP:
                self._states.append(self._now.twin())

    def forget(self, count):
        """Forgets the first changes, but not what came of them."""
        start = self._states[0]
        for change in self._changes[:count]:
            start.replay(change)
        self._changes = self._changes[count:]
        self._states = [start]
        self._done = 0
        self._now = start.twin()
        self.go_on()


def stamp_of(change):
    """What changes are ordered by."""
    return change.stamp
