"""The bench: a system, changes that stand and can be taken back, and trials that leave nothing behind."""

from risingcalls.basics import is_whole
from risingcalls.changes import check_changes, system_behind
from risingcalls.errors import NoChange


class Trial:
    """For one with: at its end the bench is as it was when the block was entered."""

    def __init__(self, bench):
        self.bench = bench

    def __enter__(self):
        self.system = self.bench.system
        self.standing = self.bench.standing
        self.log = self.bench.log
        self.given = self.bench.given
        return self.bench

    def __exit__(self, kind, value, trace):
        self.bench.system = self.system
        self.bench.standing = self.standing
        self.bench.log = self.log
        self.bench.given = self.given


class Bench:
    """A system on which changes are tried."""

    def __init__(self, system):
        self.start = system
        self.system = system
        self.standing = ()
        self.log = ()
        self.given = 0

    def __len__(self):
        return len(self.standing)

    def __iter__(self):
        return iter(self.standing)

    def put(self, change):
        """Put the change behind those that stand, and return its number."""
        kept = check_changes(self.start, [change])[0]
        number = self.given + 1
        self.given = number
        self.stand(self.standing + ((number, kept),), ("put", number, kept))
        return number

    def take_back(self, number):
        """Take back the standing change of this number."""
        found = [change for other, change in self.standing if is_whole(number) and other == number]
        if not found:
            raise NoChange(number)
        others = tuple([pair for pair in self.standing if pair[0] != number])
        self.stand(others, ("back", number, found[0]))

    def stand(self, standing, deed):
        """Let these changes stand, and write down the deed."""
        self.standing = standing
        self.system = system_behind(self.start, [change for _, change in standing])
        self.log = self.log + (deed,)

    def trial(self):
        """Return an object for one with, whose block leaves nothing behind."""
        return Trial(self)

    def tried(self, work):
        """Return what work(bench) returns, and leave nothing behind."""
        with Trial(self) as bench:
            return work(bench)
