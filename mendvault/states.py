"""States: names with their contents, and labels with what they keep."""

from mendvault.errors import BadName, NoRoom, NothingThere
from mendvault.limits import MOST_CONTENT, MOST_LABELS, MOST_NAMES


class State:
    """A state, which never changes: an edit makes another one."""

    def __init__(self):
        # A dict of contents by names, and one of tuples of pairs by labels.
        self._contents = {}
        self._kept = {}

    def names(self):
        """Its names, ascending."""
        return tuple(sorted(self._contents))

    def text(self, name):
        """The content that the name has."""
        check_there(name, self._contents)
        return self._contents[name]

    def labels(self):
        """Its labels, ascending."""
        return tuple(sorted(self._kept))

    def kept(self, label):
        """The pairs (name, content) that the label keeps, ascending."""
        check_there(label, self._kept)
        return self._kept[label]

    def pairs(self):
        """Its pairs (name, content), ascending."""
        return tuple([(name, self._contents[name]) for name in sorted(self._contents)])

    def edited(self, edit):
        """The state behind the edit."""
        change = CHANGES[edit[0]]
        return change(self, edit)

    def grown(self, edits):
        """The state behind the edits, one behind the other."""
        state = self
        for edit in edits:
            state = state.edited(edit)
        return state

    def __eq__(self, other):
        return isinstance(other, State) and self._contents == other._contents and self._kept == other._kept


def made(contents, kept):
    """The state of these; neither dict is changed by anyone from here on."""
    state = State()
    state._contents = contents
    state._kept = kept
    return state


def check_there(word, table):
    """NothingThere if the table has nothing under the word."""
    if word not in table:
        raise NothingThere(word)


def check_room(word, table, most, what):
    """NoRoom if the word is new in the table, which has as many as it may have."""
    if word not in table and len(table) >= most:
        raise NoRoom(what)


def with_put(state, edit):
    _, name, content = edit
    check_room(name, state._contents, MOST_NAMES, "names")
    return made({**state._contents, name: content}, state._kept)


def with_append(state, edit):
    _, name, content = edit
    longer = state.text(name) + content
    if len(longer) > MOST_CONTENT:
        raise NoRoom("signs")
    return made({**state._contents, name: longer}, state._kept)


def with_drop(state, edit):
    _, name = edit
    check_there(name, state._contents)
    return made(without(state._contents, name), state._kept)


def with_rename(state, edit):
    _, old, new = edit
    content = state.text(old)
    if new in state._contents and new != old:
        raise BadName(new)
    contents = without(state._contents, old)
    return made({**contents, new: content}, state._kept)


def with_copy(state, edit):
    _, old, new = edit
    content = state.text(old)
    check_room(new, state._contents, MOST_NAMES, "names")
    return made({**state._contents, new: content}, state._kept)


def with_snapshot(state, edit):
    _, label = edit
    check_room(label, state._kept, MOST_LABELS, "labels")
    return made(state._contents, {**state._kept, label: state.pairs()})


def with_forget(state, edit):
    _, label = edit
    check_there(label, state._kept)
    return made(state._contents, without(state._kept, label))


def with_restore(state, edit):
    _, label = edit
    return made(dict(state.kept(label)), state._kept)


def with_wipe(state, edit):
    return made({}, state._kept)


def without(table, word):
    """The table without what it has under the word."""
    return {key: value for key, value in table.items() if key != word}


# What makes the state behind an edit, by the edit's word.
CHANGES = {
    "put": with_put,
    "append": with_append,
    "drop": with_drop,
    "rename": with_rename,
    "copy": with_copy,
    "snapshot": with_snapshot,
    "forget": with_forget,
    "restore": with_restore,
    "wipe": with_wipe,
}


def base_edits(state):
    """The edits that make the state from one without names and labels."""
    edits = []
    for label in state.labels():
        edits = edits + fresh_puts(state.kept(label)) + [("snapshot", label)]
    return tuple(edits + fresh_puts(state.pairs()))


def fresh_puts(pairs):
    """The edits behind which just these pairs are there."""
    return [("wipe",)] + [("put", name, content) for name, content in pairs]
