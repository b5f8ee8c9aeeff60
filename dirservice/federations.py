"""Federations: directories at hosts that refer to one another."""

from dirservice.errors import BadHost, NoHost
from dirservice.filters import as_filter
from dirservice.hosts import is_host
from dirservice.names import as_name
from dirservice.referrals import referral_over, targets_of
from dirservice.searching import check_scope
from dirservice.visits import Tour
from dirservice.words import is_key


class Federation:
    """Directories by hosts."""

    def __init__(self, **directories):
        for host in directories:
            check_host(host)
        self._directories = directories

    @property
    def hosts(self):
        """The ascending hosts."""
        return tuple(sorted(self._directories))

    def search(self, host, base, scope="subtree", wanted="(&)"):
        """The pairs of a host and an entry that a search finds, and the targets that are dead."""
        check_there(self._directories, host)
        name = as_name(base)
        check_scope(scope)
        tour = Tour(self._directories, as_filter(wanted))
        tour.visit_all(host, name, scope)
        return tour.found, tour.dead

    def __getitem__(self, at):
        check_there(self._directories, at)
        return self._directories[at]

    def __setitem__(self, at, worth):
        check_host(at)
        self._directories[at] = worth

    def __iter__(self):
        raise TypeError("a federation is not iterated over")


def check_host(value):
    """Raises BadHost for what is none."""
    if not is_host(value):
        raise BadHost(value)


def check_there(directories, host):
    """Raises NoHost for what is no key of a dict of directories."""
    if not is_key(host, directories):
        raise NoHost(host)


def targets_for(directory, name):
    """The targets that Referral would tell for a base; () if it would not be raised."""
    wanted = as_name(name)
    referral = referral_over(directory.table, wanted.path)
    return () if referral is None else targets_of(referral, wanted)
