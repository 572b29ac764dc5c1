"""Vaults: what is edited, committed as transactions, and written anew by compaction."""

from mendvault.errors import BadName, NoRoom
from mendvault.limits import HIGHEST, MOST_CONTENT, MOST_DATA, MOST_EDITS, MOST_PARITY, MOST_SIGNS, check_ranges
from mendvault.records import WITH_CONTENT, is_name, transaction_text
from mendvault.states import State, base_edits
from mendvault.stripes import striped, stripes_needed
from mendvault.writing import do_write


class Vault:
    """Named texts over k volumes that bear their signs and r that bear parity."""

    def __init__(self, k, r):
        check_ranges(((0, k, 1, MOST_DATA), (1, r, 0, MOST_PARITY)))
        self._k = k
        self._r = r
        self._epoch = 0
        # Of this epoch: the edits of each transaction, and how many stripes are written.
        self._transactions = []
        self._stripes = 0
        # The state behind the last commit, the pending edits, and the state behind these.
        self._state = State()
        self._pending = []
        self._working = self._state
        # All that was ever written, and the volumes, as lists, as this leaves them.
        self._writes = []
        self._volumes = []

    def put(self, name, content):
        """The name gets the content."""
        self.add_edit(("put", name, content))

    def append(self, name, content):
        """The content goes behind what the name has."""
        self.add_edit(("append", name, content))

    def drop(self, name):
        """The name goes."""
        self.add_edit(("drop", name))

    def rename(self, old, new):
        """What was called old is called new."""
        self.add_edit(("rename", old, new))

    def copy(self, old, new):
        """New gets what old has."""
        self.add_edit(("copy", old, new))

    def snapshot(self, label):
        """The label keeps the names and their contents."""
        self.add_edit(("snapshot", label))

    def forget(self, label):
        """The label goes."""
        self.add_edit(("forget", label))

    def restore(self, label):
        """The names and their contents become those that the label keeps."""
        self.add_edit(("restore", label))

    def wipe(self):
        """All names go."""
        self.add_edit(("wipe",))

    def add_edit(self, edit):
        """Makes the edit the last pending one."""
        check_edit(edit)
        working = self._working.edited(edit)
        edits = self._pending + [edit]
        if len(edits) > MOST_EDITS or len(transaction_text(self.count(), edits)) > MOST_SIGNS:
            raise NoRoom("edits")
        self._pending = edits
        self._working = working

    def pending(self):
        """The edits since the last commit."""
        return tuple(self._pending)

    def working(self):
        """The state behind the pending edits."""
        return self._working

    def abandon(self):
        """No edits are pending any more."""
        self._pending = []
        self._working = self._state

    def commit(self):
        """Writes the transaction of the pending edits; its number."""
        # An epoch has no more transactions than stripes, so there is room for one where a stripe has it.
        number = self.count()
        self._write_transaction(self.pending())
        self._state = self._working
        self._pending = []
        return number

    def compact(self, k, r):
        """Writes the state anew with this layout, in the next epoch, and takes all that was ahead away."""
        check_ranges(((0, k, 1, MOST_DATA), (1, r, 0, MOST_PARITY)))
        if len(self._pending) > 0:
            raise NoRoom("edits")
        if self._epoch == HIGHEST:
            raise NoRoom("epochs")
        edits = base_edits(self._state)
        blocks = fitting(transaction_text(0, edits), k, r, self._epoch + 1, 0, 0)
        lengths = [len(volume) for volume in self._volumes]
        self._k = k
        self._r = r
        self._epoch = self._epoch + 1
        self._transactions = [edits]
        self._write_blocks(blocks)
        for volume, many in enumerate(lengths):
            if many > 0:
                self._write(("cut", volume, many))

    def _write_transaction(self, edits):
        """Writes the edits, a tuple, as the next transaction of the epoch."""
        number = self.count()
        text = transaction_text(number, edits)
        self._write_blocks(fitting(text, self._k, self._r, self._epoch, self._stripes, number))
        self._transactions.append(edits)

    def _write_blocks(self, blocks):
        """Writes the blocks of a transaction."""
        for block in blocks:
            self._write(("block", block.volume, block.row()))
        self._stripes = blocks[-1].stripe + 1

    def _write(self, write):
        """Does the write."""
        self._writes.append(write)
        do_write(self._volumes, write)

    def state(self):
        """The state behind the last commit."""
        return self._state

    def writes(self):
        """All that was ever written."""
        return tuple(self._writes)

    def volumes(self):
        """The volumes, as all writes leave them."""
        unwritten = self._k + self._r - len(self._volumes)
        return tuple([tuple(volume) for volume in self._volumes]) + ((),) * unwritten

    def epoch(self):
        """The number of the epoch."""
        return self._epoch

    def layout(self):
        """The pair (k, r)."""
        return self._k, self._r

    def count(self):
        """How many transactions this epoch has."""
        return len(self._transactions)

    def stripes(self):
        """How many stripes this epoch has."""
        return self._stripes

    def transactions(self):
        """The edits of each transaction of this epoch."""
        return tuple(self._transactions)


def check_edit(edit):
    """BadName for the first of its names that is none; NoRoom if its content has too many signs."""
    names = edit[1:]
    content = ""
    if edit[0] in WITH_CONTENT:
        names = edit[1:2]
        content = edit[2]
    for name in names:
        if not is_name(name):
            raise BadName(name)
    if len(content) > MOST_CONTENT:
        raise NoRoom("signs")


def fitting(text, k, r, epoch, stripe, number):
    """The blocks of the text, from this stripe on, if the epoch has room for them."""
    if stripe + stripes_needed(len(text), k) > HIGHEST + 1:
        raise NoRoom("stripes")
    return striped(text, k, r, epoch, stripe, number)


def resumed(k, r, epoch, transactions):
    """A vault that began with this epoch and has just these transactions, whatever their sizes."""
    vault = Vault(k, r)
    vault._epoch = epoch
    for edits in transactions:
        vault._write_transaction(edits)
        vault._state = vault._state.grown(edits)
    vault._working = vault._state
    return vault
