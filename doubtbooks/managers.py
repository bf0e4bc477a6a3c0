"""Managers: many transactions by one protocol, whose rows share one log at each site."""

from doubtbooks.bounds import MAX_NAME, MAX_TRANSACTIONS
from doubtbooks.deeds import done, with_coordinator, with_participant
from doubtbooks.ending import is_split
from doubtbooks.errors import BadProtocol, Refused, TooMany, Unfit
from doubtbooks.homing import way_home
from doubtbooks.kinds import is_integer_within
from doubtbooks.moving import can_be_done, deed_error
from doubtbooks.protocols import protocol_error
from doubtbooks.standings import start

NAME_SIGNS = "abcdefghijklmnopqrstuvwxyz0123456789"


def is_name(value):
    """Whether value is a name of a transaction."""
    if not isinstance(value, str) or not 1 <= len(value) <= MAX_NAME:
        return False
    return all(sign in NAME_SIGNS for sign in value)


def own_rows(rows, name):
    """The rows of this transaction among the rows of a site, in order."""
    return tuple([row for owner, row in rows if owner == name])


def site_log(standing, site):
    """The log of a transaction at this site, and how much of it is sure."""
    if site == 0:
        return standing[0][1:3]
    return standing[1][site - 1][1:]


def with_site_log(standing, site, log, sure):
    """The standing of a transaction with this as its log at this site."""
    if site == 0:
        return with_coordinator(standing, standing[0][0], log, sure, standing[0][3])
    return with_participant(standing, site - 1, standing[1][site - 1][0], log, sure)


def site_fall(site, kept):
    """The deed by which a transaction falls at this site, with so many of its own rows kept."""
    return ("stop", kept) if site == 0 else ("fall", site - 1, kept)


class Manager:
    """Many transactions among the same coordinator and participants."""

    def __init__(self, protocol):
        error = protocol_error(protocol)
        if error is not None:
            raise BadProtocol(error)
        self.protocol = protocol
        self.names = ()
        # The rows stand in the logs of the sites alone; what is kept of a transaction here is the rest of it.
        self.standings = {}
        self.deeds = {}
        self.logs = [((), 0)] * (1 + len(protocol[1]))

    def check_known(self, name):
        """Raises Unfit if name is that of no transaction."""
        if not isinstance(name, str) or name not in self.standings:
            raise Unfit()

    def check_site(self, site):
        """Raises Unfit if site is no number of a site."""
        if not is_integer_within(site, 0, len(self.logs) - 1):
            raise Unfit()

    def standing_now(self, name):
        """The standing of a transaction, its logs being what the sites have of it."""
        standing = self.standings[name]
        for site in range(len(self.logs)):
            rows, sure = self.logs[site]
            standing = with_site_log(standing, site, own_rows(rows, name), len(own_rows(rows[:sure], name)))
        return standing

    def write_behind(self, site, name, log, standing):
        """Puts behind the log of the site what a transaction, whose log it was, has written in standing."""
        longer, longer_sure = site_log(standing, site)
        rows, sure = self.logs[site]
        if longer_sure > len(log):
            # One of the new rows is forced, and with it all that stand ahead of it, whoever wrote them.
            sure = len(rows) + longer_sure - len(log)
        self.logs[site] = (rows + tuple([(name, row) for row in longer[len(log):]]), sure)

    def go_on(self, name, deed):
        """The transaction does this deed, which it can do; no row is lost by it any more."""
        standing = self.standing_now(name)
        behind = done(self.protocol, standing, deed)
        for site in range(len(self.logs)):
            self.write_behind(site, name, site_log(standing, site)[0], behind)
        self.standings[name] = behind
        self.deeds[name].append(deed)

    def enter(self, name):
        """A new transaction, at its start."""
        if not is_name(name) or name in self.standings:
            raise Unfit()
        if len(self.names) == MAX_TRANSACTIONS:
            raise TooMany(MAX_TRANSACTIONS)
        self.names = self.names + (name,)
        self.standings[name] = start(self.protocol)
        self.deeds[name] = []

    def do(self, name, deed):
        """The transaction does a deed other than a fall."""
        self.check_known(name)
        # Whoever falls falls for all transactions at once.
        if deed_error(self.protocol, self.standing_now(name), deed) is not None or deed[0] in ("stop", "fall"):
            raise Refused(deed)
        self.go_on(name, deed)

    def fall(self, site, kept):
        """The site falls, with so many rows of its log kept, for all transactions."""
        self.check_site(site)
        rows, sure = self.logs[site]
        if not is_integer_within(kept, sure, len(rows)):
            raise Refused(kept)
        self.logs[site] = (rows[:kept], kept)
        for name in self.names:
            standing = self.standing_now(name)
            deed = site_fall(site, len(own_rows(rows[:kept], name)))
            if can_be_done(self.protocol, standing, deed):
                self.go_on(name, deed)

    def go_home(self):
        """All transactions go home, one behind another; how many deeds that were."""
        many = 0
        for name in self.names:
            way = way_home(self.protocol, self.standing_now(name))
            for deed in way:
                self.go_on(name, deed)
            many += len(way)
        return many

    def standing_of(self, name):
        """The standing of a transaction."""
        self.check_known(name)
        return self.standing_now(name)

    def deeds_of(self, name):
        """All deeds that a transaction has done, in order."""
        self.check_known(name)
        return tuple(self.deeds[name])

    def log_of(self, site):
        """The rows of the log of a site, each with the name of its transaction, and how many are sure."""
        self.check_site(site)
        return self.logs[site]

    def split_names(self):
        """The names of the transactions that are split, ascending."""
        return tuple(sorted([name for name in self.names if is_split(self.standings[name])]))

    def twin(self):
        """A manager that is as this one is, and goes its own way from then on."""
        other = Manager(self.protocol)
        other.names = self.names
        other.standings = {name: self.standings[name] for name in self.names}
        other.deeds = {name: list(self.deeds[name]) for name in self.names}
        other.logs = list(self.logs)
        return other
