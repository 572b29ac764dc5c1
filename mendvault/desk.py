"""The desk: a vault that is told what to do line by line, and its volumes as they lie outside."""

from mendvault.blocks import SIZE
from mendvault.errors import BadLine, BadName, BadValue, Beyond, NoRoom, NothingThere
from mendvault.figures import number_of
from mendvault.harms import harmed
from mendvault.opening import opened
from mendvault.records import WITH_CONTENT
from mendvault.vaults import Vault
from mendvault.writing import do_write

# How many words, which are names or labels, stand behind the first one of a line.
WORDS_BEHIND = {
    "drop": 1,
    "rename": 2,
    "copy": 2,
    "snapshot": 1,
    "forget": 1,
    "restore": 1,
    "wipe": 0,
    "abandon": 0,
    "commit": 0,
    "show": 1,
    "names": 0,
    "labels": 0,
    "open": 0,
    "mend": 0,
}

# How many numbers stand behind it. There may be more behind "change".
NUMBERS_BEHIND = {
    "compact": 2,
    "lose": 1,
    "change": 3,
    "cut": 3,
    "stop": 1,
}

# The most figures of a number in a line.
MOST_FIGURES = 18


class Desk:
    """A vault, and the volumes outside, which harms can touch."""

    def __init__(self, k, r):
        self._vault = Vault(k, r)
        self._volumes = self._vault.volumes()
        # Behind how many integers power goes at the next writing, or None.
        self._stop = None
        self._lines = []

    def tell(self, line):
        """Does what the line says; its answer."""
        answer = answered(self, parts_of(line))
        self._lines.append(line)
        return answer

    def log(self):
        """All lines that were answered."""
        return "".join([line + "\n" for line in self._lines])


def replayed(k, r, log):
    """A desk on which the lines of the log were told."""
    desk = Desk(k, r)
    lines = log.split("\n")
    # Behind the last line feed there is no line more.
    if lines[-1] == "":
        lines = lines[:-1]
    for at, line in enumerate(lines):
        try:
            desk.tell(line)
        except BadLine:
            raise BadLine(at)
    return desk


def parts_of(line):
    """The first word of the line, and what stands behind it: words, a content, numbers."""
    check("\n" not in line)
    word, _, rest = line.partition(" ")
    if word in WITH_CONTENT:
        name, blank, content = rest.partition(" ")
        check(name != "" and blank != "")
        return word, name, content
    words = line.split(" ")[1:]
    if word in WORDS_BEHIND:
        check(len(words) == WORDS_BEHIND[word] and "" not in words)
        return (word, *words)
    check(word in NUMBERS_BEHIND)
    numbers = [number_of(each, MOST_FIGURES) for each in words]
    check(None not in numbers)
    least = NUMBERS_BEHIND[word]
    check(len(numbers) == least or (len(numbers) > least and word == "change"))
    return (word, *numbers)


def check(holds):
    """BadLine if the line is none of those that are known."""
    if not holds:
        raise BadLine(0)


def answered(desk, parts):
    """The answer to the line of these parts."""
    act = ACTS[parts[0]]
    try:
        return act(desk, parts)
    except BadName:
        return "no BadName"
    except BadValue:
        return "no BadValue"
    except Beyond:
        return "no Beyond"
    except NoRoom:
        return "no NoRoom"
    except NothingThere:
        return "no NothingThere"


def edit(desk, parts):
    desk._vault.add_edit(parts)
    return "ok"


def abandon(desk, _):
    desk._vault.abandon()
    return "ok"


def commit(desk, _):
    done = len(desk._vault.writes())
    number = desk._vault.commit()
    write_outside(desk, done)
    return str(number)


def compact(desk, parts):
    _, k, r = parts
    done = len(desk._vault.writes())
    desk._vault.compact(k, r)
    write_outside(desk, done)
    return str(desk._vault.epoch())


def write_outside(desk, done):
    """Does the vault's writes, but for the first ones, which were done, with the volumes outside."""
    writes = desk._vault.writes()[done:]
    # As much as there can be, if power does not go.
    most = SIZE * len(writes) if desk._stop is None else desk._stop
    desk._volumes = written(desk._volumes, writes, most)
    desk._stop = None


def written(volumes, writes, most):
    """The volumes when so many integers of the writes, a cut counting one, were written to them."""
    out = [list(volume) for volume in volumes]
    left = most
    for word, volume, what in writes:
        if left == 0:
            break
        if word == "block":
            part = what[:left]
            do_write(out, (word, volume, part))
            left = left - len(part)
        else:
            do_write(out, (word, volume, what))
            left = left - 1
    return tuple([tuple(volume) for volume in out])


def show(desk, parts):
    _, name = parts
    return desk._vault.state().text(name)


def names(desk, _):
    return " ".join(desk._vault.state().names())


def labels(desk, _):
    return " ".join(desk._vault.state().labels())


def harm(desk, parts):
    desk._volumes = harmed(desk._volumes, [parts])
    return "ok"


def change(desk, parts):
    return harm(desk, parts[:3] + (parts[3:],))


def take_up(desk, _):
    found = opened(desk._volumes)
    vault = found.vault()
    desk._vault = vault
    desk._volumes = vault.volumes()
    return f"{found.epoch} {found.count} {len(found.missing)}"


def mend(desk, _):
    desk._volumes = opened(desk._volumes).mended()
    return str(len(desk._volumes))


def stop(desk, parts):
    _, many = parts
    desk._stop = many
    return "ok"


# What does each kind of line, by its first word: it returns the answer.
ACTS = {
    "put": edit,
    "append": edit,
    "drop": edit,
    "rename": edit,
    "copy": edit,
    "snapshot": edit,
    "forget": edit,
    "restore": edit,
    "wipe": edit,
    "abandon": abandon,
    "commit": commit,
    "compact": compact,
    "show": show,
    "names": names,
    "labels": labels,
    "lose": harm,
    "change": change,
    "cut": harm,
    "open": take_up,
    "mend": mend,
    "stop": stop,
}
