"""A plain model of the desk, straight from the document, to hold the program against."""

import re

from tests.model import ModelVault, Refused
from tests.model_opening import model_behind, model_opened
from tests.test_harms import model_harmed

NUMBER = "(0|[1-9][0-9]{0,17})"
WORD = "([^ \n]+)"

# All lines that there are.
FORMS = [re.compile(form, re.ASCII) for form in (
    f"(put|append) {WORD} (.*)",
    f"(drop|snapshot|forget|restore|show) {WORD}",
    f"(rename|copy) {WORD} {WORD}",
    "(wipe|abandon|commit|names|labels|open|mend)",
    f"(lose|stop) {NUMBER}",
    f"(compact) {NUMBER} {NUMBER}",
    f"(cut) {NUMBER} {NUMBER} {NUMBER}",
    f"(change) {NUMBER} {NUMBER}((?: {NUMBER})+)",
)]

EDITS = ("put", "append", "drop", "snapshot", "forget", "restore", "rename", "copy", "wipe")


class NoLine(Exception):
    """A line of no kind."""


class ModelDesk:
    """A vault, what lies outside, and at which integer power goes."""

    def __init__(self, k, r):
        self.vault = ModelVault(k, r)
        self.outside = ((),) * (k + r)
        self.stop = None
        self.lines = []

    def tell(self, line):
        matches = [match for match in (form.fullmatch(line) for form in FORMS) if match]
        if not matches:
            raise NoLine
        word, *rest = matches[0].groups()
        try:
            answer = self.edit(word, *rest) if word in EDITS else getattr(self, "do_" + word)(*rest)
        except Refused as error:
            answer = "no " + error.args[0]
        self.lines.append(line)
        return answer

    def edit(self, *edit):
        self.vault.edit(*edit)
        return "ok"

    def do_abandon(self):
        self.vault.pending = []
        return "ok"

    def do_commit(self):
        many = len(self.vault.writes)
        self.vault.commit()
        self.write_outside(self.vault.writes[many:])
        return str(len(self.vault.transactions) - 1)

    def do_compact(self, k, r):
        k, r = int(k), int(r)
        if not (1 <= k <= 6 and r <= 4):
            raise Refused("BadValue")
        if self.vault.pending:
            raise Refused("NoRoom")
        many = len(self.vault.writes)
        self.vault.compact(k, r)
        self.write_outside(self.vault.writes[many:])
        return str(self.vault.epoch)

    def write_outside(self, writes):
        """Does what power lets of the writes, integer by integer."""
        steps = []
        for word, volume, what in writes:
            steps += [(word, volume, each) for each in (what if word == "block" else [what])]
        outside = [list(volume) for volume in self.outside]
        for word, volume, what in steps[:self.stop]:
            if word == "block":
                outside += [[] for _ in range(len(outside), volume + 1)]
                outside[volume].append(what)
            elif volume < len(outside):
                del outside[volume][:what]
        self.outside = tuple(tuple(volume) for volume in outside)
        self.stop = None

    def do_show(self, name):
        state = self.vault.state
        state.need(name, state.contents)
        return state.contents[name]

    def do_names(self):
        return " ".join(sorted(self.vault.state.contents))

    def do_labels(self):
        return " ".join(sorted(self.vault.state.kept))

    def harm(self, *harm):
        outside = model_harmed(self.outside, [harm])
        if isinstance(outside, int):
            raise Refused("BadValue")
        self.outside = outside
        return "ok"

    def do_lose(self, volume):
        return self.harm("lose", int(volume))

    def do_cut(self, *numbers):
        return self.harm("cut", *[int(number) for number in numbers])

    def do_change(self, volume, place, integers, _):
        return self.harm("change", int(volume), int(place), tuple(int(each) for each in integers.split()))

    def opened(self):
        """The vault that is found outside, or None, and how many blocks are missing."""
        told = model_opened(self.outside)
        if told["epoch"] is None:
            return None, 0
        vault = ModelVault(*told["layout"])
        vault.epoch = told["epoch"]
        for edits in told["transactions"]:
            vault.write(edits)
        vault.state = model_behind(told["transactions"])
        return vault, len(told["missing"])

    def do_open(self):
        vault, missing = self.opened()
        if vault is None:
            raise Refused("Beyond")
        self.vault, self.outside = vault, vault.volumes()
        return f"{vault.epoch} {len(vault.transactions)} {missing}"

    def do_mend(self):
        vault, _ = self.opened()
        self.outside = vault.volumes() if vault else ()
        return str(len(self.outside))

    def do_stop(self, many):
        self.stop = int(many)
        return "ok"
