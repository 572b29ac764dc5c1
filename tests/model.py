"""A plain model of states and vaults, straight from the document, to hold the program against."""

from tests.helper import slow_striped, slow_sum

LETTERS = "abcdefghijklmnopqrstuvwxyz"


class Refused(Exception):
    """An edit or a call that the document does not let: the error's name and its argument."""


def known_name(word):
    return 1 <= len(word) <= 8 and word[0] in LETTERS and not set(word) - set(LETTERS + "0123456789")


class ModelState:
    """Contents by names, and what is kept by labels."""

    def __init__(self, contents=None, kept=None):
        self.contents = dict(contents or {})
        self.kept = {label: dict(pairs) for label, pairs in (kept or {}).items()}

    def pairs(self):
        return tuple(sorted(self.contents.items()))

    def edited(self, edit):
        other = ModelState(self.contents, self.kept)
        word, *rest = edit
        getattr(other, "do_" + word)(*rest)
        return other

    def do_put(self, name, content):
        self.contents[name] = content
        if len(self.contents) > 24:
            raise Refused("NoRoom", "names")

    def do_append(self, name, content):
        self.need(name, self.contents)
        self.contents[name] += content
        if len(self.contents[name]) > 400:
            raise Refused("NoRoom", "signs")

    def do_drop(self, name):
        self.need(name, self.contents)
        del self.contents[name]

    def do_rename(self, old, new):
        self.need(old, self.contents)
        if new == old:
            return
        if new in self.contents:
            raise Refused("BadName", new)
        self.contents[new] = self.contents.pop(old)

    def do_copy(self, old, new):
        self.need(old, self.contents)
        self.do_put(new, self.contents[old])

    def do_snapshot(self, label):
        self.kept[label] = dict(self.contents)
        if len(self.kept) > 8:
            raise Refused("NoRoom", "labels")

    def do_forget(self, label):
        self.need(label, self.kept)
        del self.kept[label]

    def do_restore(self, label):
        self.need(label, self.kept)
        self.contents = dict(self.kept[label])

    def do_wipe(self):
        self.contents = {}

    @staticmethod
    def need(word, table):
        if word not in table:
            raise Refused("NothingThere", word)

    def base(self):
        """The edits that make it."""
        edits = []
        for label, kept in sorted(self.kept.items()):
            edits += [("wipe",)] + [("put", *pair) for pair in sorted(kept.items())] + [("snapshot", label)]
        return tuple(edits + [("wipe",)] + [("put", *pair) for pair in self.pairs()])


def model_text(number, edits):
    """The text of a transaction."""
    text = f"tx {number} {len(edits)}\n"
    for word, *rest in edits:
        if word in ("put", "append"):
            text += f"{word} {rest[0]} {len(rest[1])}\n{rest[1]}\n"
        else:
            text += " ".join([word] + rest) + "\n"
    return f"{text}end {slow_sum([ord(sign) for sign in text])}\n"


class ModelVault:
    """What a vault has written, reckoned anew from all its transactions."""

    def __init__(self, k, r):
        self.k, self.r, self.epoch = k, r, 0
        self.state, self.pending, self.transactions = ModelState(), [], []
        self.stripes, self.writes = 0, []

    def working(self):
        state = self.state
        for edit in self.pending:
            state = state.edited(edit)
        return state

    def edit(self, word, *rest):
        contents = rest[1:] if word in ("put", "append") else ()
        for name in rest[:len(rest) - len(contents)]:
            if not known_name(name):
                raise Refused("BadName", name)
        if any(len(content) > 400 for content in contents):
            raise Refused("NoRoom", "signs")
        self.working().edited((word, *rest))
        pending = self.pending + [(word, *rest)]
        if len(pending) > 40 or len(model_text(len(self.transactions), pending)) > 3000:
            raise Refused("NoRoom", "edits")
        self.pending = pending

    def write(self, edits):
        text = model_text(len(self.transactions), edits)
        rows = slow_striped(text, self.k, self.r, self.epoch, self.stripes, len(self.transactions))
        self.writes += [("block", row[1], row) for row in rows]
        self.stripes += len(rows) // (self.k + self.r)
        self.transactions.append(tuple(edits))

    def commit(self):
        self.write(self.pending)
        self.state, self.pending = self.working(), []

    def compact(self, k, r):
        lengths = [len(volume) for volume in self.volumes()]
        self.k, self.r, self.epoch = k, r, self.epoch + 1
        self.transactions, self.stripes = [], 0
        self.write(self.state.base())
        self.writes += [("cut", volume, many) for volume, many in enumerate(lengths) if many > 0]

    def volumes(self):
        many = max([self.k + self.r] + [write[1] + 1 for write in self.writes])
        return model_played(self.writes, many)


def model_played(writes, many):
    """So many volumes, as these writes leave them."""
    volumes = [()] * many
    for word, volume, what in writes:
        volumes[volume] = volumes[volume] + what if word == "block" else volumes[volume][what:]
    return tuple(volumes)
