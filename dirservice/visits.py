"""The visits of a search in a federation."""

from dirservice.errors import NoEntry, Referral
from dirservice.names import Name
from dirservice.searching import search

MAX_TRIED = 20


class Tour:
    """The visits of one search, and what came of them."""

    def __init__(self, directories, wanted):
        self._directories = directories
        self._wanted = wanted
        self._visits = []
        self._ended = {}
        self._pairs = {}
        self._dead = {}

    @property
    def found(self):
        """The pairs of a host and an entry that were found."""
        return tuple(self._pairs.values())

    @property
    def dead(self):
        """The first targets of the visits that did not end well."""
        return tuple(self._dead)

    def visit_all(self, host, base, scope):
        """Makes the first visit and all that come of it."""
        self._visits.append(((host + "/" + base.text,), scope))
        at = 0
        # The visits that come of one stand behind all others.
        while at < len(self._visits):
            targets, scope = self._visits[at]
            if not self.ends_well(targets, scope):
                self._dead[targets[0]] = True
            at += 1

    def ends_well(self, targets, scope):
        """Makes a visit; whether it ends before there is nothing left to be tried."""
        waiting = list(targets)
        tried = []
        while waiting and len(tried) < MAX_TRIED:
            target = waiting.pop(0)
            tried.append(place_of(target))
            if (place_of(target), scope) in self._ended:
                return True
            told = self.try_target(target, scope)
            if told is None:
                return True
            waiting = unknown(told, tried + [place_of(one) for one in waiting]) + waiting
        return False

    def try_target(self, target, scope):
        """The targets that are told instead of the one that is tried; None if the search there ends the visit."""
        host, _, base = target.partition("/")
        if host not in self._directories:
            return ()
        try:
            result = search(self._directories[host], base, scope, self._wanted)
        except NoEntry:
            return ()
        except Referral as error:
            return error.targets
        self._ended[place_of(target), scope] = True
        for entry in result.entries:
            self._pairs.setdefault((host, entry.name.path), (host, entry))
        for reference in result.references:
            if reference[0]:
                self._visits.append(reference)
        return None


def place_of(target):
    """What is the same for targets that count as the same: the host and the path of the name."""
    host, _, text = target.partition("/")
    return host, Name(text).path


def unknown(targets, places):
    """Those targets, each only once, that have none of some places."""
    rows = {}
    for target in targets:
        if place_of(target) not in places:
            rows.setdefault(place_of(target), target)
    return list(rows.values())
