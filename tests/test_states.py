"""Promises [19], [20], [21]: states."""

import unittest

from mendvault.states import State, base_edits
from tests.helper import as_lists, fixed_random, raised
from tests.model import ModelState, Refused

# As many names as a state may have, and as many labels.
NAMES = tuple(f"n{at}" for at in range(24))
LABELS = tuple(f"l{at}" for at in range(8))


def state_of(*edits):
    return State().grown(edits)


def full_state():
    """A state with as many names and labels as it may have."""
    return state_of(*[("put", name, name) for name in NAMES], *[("snapshot", label) for label in LABELS])


def seen(state):
    """All that the methods of a state tell."""
    return state.pairs(), tuple((label, state.kept(label)) for label in state.labels())


class ReadingTest(unittest.TestCase):
    def test_nothing(self):
        state = State()
        self.assertEqual((state.names(), state.labels(), state.pairs()), ((), (), ()))
        for name in ("a", "", "no name"):
            self.assertEqual(raised(state.text, name), ("NothingThere", name))
            self.assertEqual(raised(state.kept, name), ("NothingThere", name))

    def test_names_and_pairs_ascend(self):
        state = state_of(("put", "b", "1"), ("put", "c", "2"), ("put", "a", "3"), ("put", "a9", "0"), ("put", "aa", ""))
        self.assertEqual(state.names(), ("a", "a9", "aa", "b", "c"))
        self.assertEqual(state.pairs(), (("a", "3"), ("a9", "0"), ("aa", ""), ("b", "1"), ("c", "2")))
        self.assertEqual([state.text(name) for name in state.names()], ["3", "0", "", "1", "2"])

    def test_labels_ascend(self):
        state = state_of(("snapshot", "b"), ("snapshot", "c"), ("snapshot", "a"))
        self.assertEqual(state.labels(), ("a", "b", "c"))

    def test_kept(self):
        state = state_of(("put", "b", "1"), ("put", "a", "2"), ("snapshot", "s"), ("drop", "a"), ("snapshot", "t"))
        self.assertEqual(state.kept("s"), (("a", "2"), ("b", "1")))
        self.assertEqual(state.kept("t"), (("b", "1"),))

    def test_names_are_no_labels(self):
        state = state_of(("put", "a", "1"), ("snapshot", "s"))
        self.assertEqual(raised(state.text, "s"), ("NothingThere", "s"))
        self.assertEqual(raised(state.kept, "a"), ("NothingThere", "a"))

    def test_kinds(self):
        state = state_of(("put", "a", "1"), ("snapshot", "s"))
        for result in (state.names(), state.labels(), state.pairs(), state.pairs()[0], state.kept("s")):
            self.assertIs(type(result), tuple)
        self.assertIs(type(state.kept("s")[0]), tuple)
        self.assertIs(type(state.text("a")), str)
        self.assertIs(type(state), State)


class EqualTest(unittest.TestCase):
    def test_equal(self):
        one = state_of(("put", "a", "1"), ("put", "b", "2"), ("snapshot", "s"), ("snapshot", "t"))
        other = state_of(("put", "b", "2"), ("put", "a", "x"), ("put", "a", "1"), ("snapshot", "t"), ("snapshot", "s"))
        self.assertIs(one == other, True)
        self.assertIs(one != other, False)
        self.assertIs(State() == State(), True)
        self.assertIs(state_of(("put", "a", "1"), ("drop", "a")) == State(), True)
        self.assertIs(state_of(("snapshot", "a"), ("forget", "a")) == State(), True)

    def test_unlike(self):
        states = [
            State(),
            state_of(("put", "a", "")),
            state_of(("put", "a", "1")),
            state_of(("put", "b", "1")),
            state_of(("put", "a", "1"), ("put", "b", "1")),
            state_of(("snapshot", "a")),
            state_of(("snapshot", "b")),
            state_of(("snapshot", "a"), ("snapshot", "b")),
            state_of(("put", "a", "1"), ("snapshot", "a")),
            state_of(("put", "a", "1"), ("snapshot", "a"), ("wipe",)),
            state_of(("snapshot", "a"), ("put", "a", "1")),
        ]
        for at, one in enumerate(states):
            for place, other in enumerate(states):
                self.assertIs(one == other, at == place, (at, place))
                self.assertIs(one != other, at != place, (at, place))

    def test_unlike_all_else(self):
        for other in ((), {}, None, 0, "", (("a", "1"),)):
            self.assertIs(State() == other, False)
            self.assertIs(state_of(("put", "a", "1")) == other, False)


class EditedTest(unittest.TestCase):
    def assert_edits(self, state, edit, expected):
        """The edit makes this of the state; the state itself stays."""
        before = seen(state)
        for each in (edit, list(edit)):
            result = state.edited(each)
            self.assertEqual(result, expected)
            self.assertEqual(seen(result), seen(expected))
        self.assertEqual(seen(state), before)

    def assert_refused(self, state, edit, *error):
        before = seen(state)
        self.assertEqual(raised(state.edited, edit), error)
        self.assertEqual(raised(state.edited, list(edit)), error)
        self.assertEqual(raised(state.grown, [edit]), error)
        self.assertEqual(seen(state), before)

    def test_put(self):
        self.assert_edits(State(), ("put", "a", "1"), state_of(("put", "a", "1")))
        state = state_of(("put", "a", "1"), ("put", "b", "2")).edited(("put", "a", "3"))
        self.assertEqual(state.pairs(), (("a", "3"), ("b", "2")))
        self.assertEqual(State().edited(("put", "a", "")).pairs(), (("a", ""),))

    def test_put_of_24_names_and_one_more(self):
        state = state_of(*[("put", name, "x") for name in NAMES])
        self.assertEqual(state.names(), tuple(sorted(NAMES)))
        self.assert_refused(state, ("put", "more", "x"), "NoRoom", "names")
        for name in NAMES:
            self.assertEqual(state.edited(("put", name, "y")).text(name), "y")
        state = state.edited(("drop", "n5")).edited(("put", "more", "x"))
        self.assertEqual(len(state.names()), 24)
        self.assert_refused(state, ("put", "n5", "x"), "NoRoom", "names")

    def test_append(self):
        state = state_of(("put", "a", "one\n"), ("put", "b", "2"))
        self.assertEqual(state.edited(("append", "a", "two")).pairs(), (("a", "one\ntwo"), ("b", "2")))
        self.assertEqual(state.edited(("append", "a", "")).pairs(), state.pairs())
        self.assert_refused(state, ("append", "c", "x"), "NothingThere", "c")
        self.assert_refused(state, ("append", "c", ""), "NothingThere", "c")

    def test_append_up_to_400_signs(self):
        for many in (0, 1, 200, 399, 400):
            state = state_of(("put", "a", "x" * many))
            self.assertEqual(state.edited(("append", "a", "y" * (400 - many))).text("a"), "x" * many + "y" * (400 - many))
            self.assert_refused(state, ("append", "a", "y" * (401 - many)), "NoRoom", "signs")
            self.assert_refused(state, ("append", "b", "y" * 400), "NothingThere", "b")

    def test_drop(self):
        state = state_of(("put", "a", "1"), ("put", "b", "2"))
        self.assert_edits(state, ("drop", "a"), state_of(("put", "b", "2")))
        self.assert_refused(state, ("drop", "c"), "NothingThere", "c")
        self.assert_refused(State(), ("drop", "a"), "NothingThere", "a")

    def test_rename(self):
        state = state_of(("put", "a", "1"), ("put", "b", "2"))
        self.assert_edits(state, ("rename", "a", "c"), state_of(("put", "c", "1"), ("put", "b", "2")))
        self.assert_edits(state, ("rename", "a", "a"), state)
        self.assert_refused(state, ("rename", "a", "b"), "BadName", "b")
        self.assert_refused(state, ("rename", "c", "d"), "NothingThere", "c")
        self.assert_refused(state, ("rename", "c", "b"), "NothingThere", "c")
        self.assert_refused(state, ("rename", "c", "c"), "NothingThere", "c")

    def test_copy(self):
        state = state_of(("put", "a", "1"), ("put", "b", "2"))
        self.assert_edits(state, ("copy", "a", "c"), state_of(("put", "a", "1"), ("put", "b", "2"), ("put", "c", "1")))
        self.assert_edits(state, ("copy", "a", "b"), state_of(("put", "a", "1"), ("put", "b", "1")))
        self.assert_edits(state, ("copy", "a", "a"), state)
        self.assert_refused(state, ("copy", "c", "a"), "NothingThere", "c")
        self.assert_refused(state, ("copy", "c", "c"), "NothingThere", "c")
        self.assert_refused(state, ("copy", "c", "d"), "NothingThere", "c")

    def test_rename_and_copy_among_24_names(self):
        state = full_state()
        self.assertEqual(state.edited(("rename", "n3", "more")).text("more"), "n3")
        self.assertEqual(state.edited(("rename", "n3", "n3")), state)
        self.assertEqual(state.edited(("copy", "n3", "n4")).text("n4"), "n3")
        self.assertEqual(state.edited(("copy", "n3", "n3")), state)
        self.assert_refused(state, ("copy", "n3", "more"), "NoRoom", "names")
        self.assert_refused(state, ("copy", "more", "most"), "NothingThere", "more")

    def test_snapshot(self):
        state = state_of(("put", "a", "1")).edited(("snapshot", "s"))
        self.assertEqual(seen(state), ((("a", "1"),), (("s", (("a", "1"),)),)))
        state = state.edited(("put", "b", "2"))
        self.assertEqual(state.kept("s"), (("a", "1"),))
        state = state.edited(("snapshot", "s"))
        self.assertEqual(state.kept("s"), (("a", "1"), ("b", "2")))
        self.assertEqual(State().edited(("snapshot", "s")).kept("s"), ())

    def test_8_snapshots_and_one_more(self):
        state = full_state()
        self.assertEqual(state.labels(), LABELS)
        self.assert_refused(state, ("snapshot", "more"), "NoRoom", "labels")
        again = state.edited(("wipe",)).edited(("snapshot", "l3"))
        self.assertEqual(again.kept("l3"), ())
        state = state.edited(("forget", "l3")).edited(("snapshot", "more"))
        self.assertEqual(len(state.labels()), 8)
        self.assert_refused(state, ("snapshot", "l3"), "NoRoom", "labels")

    def test_forget(self):
        state = state_of(("put", "a", "1"), ("snapshot", "s"), ("snapshot", "t"))
        self.assert_edits(state, ("forget", "s"), state_of(("put", "a", "1"), ("snapshot", "t")))
        self.assert_refused(state, ("forget", "a"), "NothingThere", "a")
        self.assert_refused(State(), ("forget", "s"), "NothingThere", "s")

    def test_restore(self):
        state = state_of(("put", "a", "1"), ("put", "b", "2"), ("snapshot", "s"), ("drop", "a"), ("put", "b", "3"))
        state = state.edited(("put", "c", "4")).edited(("snapshot", "t"))
        restored = state.edited(("restore", "s"))
        self.assertEqual(restored.pairs(), (("a", "1"), ("b", "2")))
        self.assertEqual(restored.labels(), ("s", "t"))
        self.assertEqual(restored.kept("t"), (("b", "3"), ("c", "4")))
        self.assertEqual(restored.edited(("restore", "t")), state)
        self.assert_refused(state, ("restore", "b"), "NothingThere", "b")
        self.assert_refused(State(), ("restore", "s"), "NothingThere", "s")

    def test_what_is_kept_stays_behind_restore(self):
        state = state_of(("put", "a", "1"), ("snapshot", "s"), ("restore", "s"), ("put", "a", "2"), ("put", "b", "3"))
        self.assertEqual(state.kept("s"), (("a", "1"),))
        self.assertEqual(state.pairs(), (("a", "2"), ("b", "3")))

    def test_wipe(self):
        state = state_of(("put", "a", "1"), ("snapshot", "s"))
        self.assertEqual(seen(state.edited(("wipe",))), ((), (("s", (("a", "1"),)),)))
        self.assert_edits(State(), ("wipe",), State())

    def test_contents_of_400_signs(self):
        self.assertEqual(State().edited(("put", "a", "\n" * 400)).text("a"), "\n" * 400)

    def test_it_does_what_the_model_does(self):
        random_source = fixed_random(20)
        refused = set()
        for names, labels, steps in ((3, 3, 2000), (30, 12, 4000)):
            state, model = State(), ModelState()
            for _ in range(steps):
                edit = self.some_edit(random_source, names, labels)
                try:
                    model = model.edited(edit)
                except Refused as error:
                    self.assert_refused(state, edit, *error.args)
                    refused.add((edit[0], error.args[0], error.args[0] == "NoRoom" and error.args[1]))
                    continue
                state = state.edited(edit)
                self.assertEqual(state.pairs(), model.pairs())
                kept = {label: dict(state.kept(label)) for label in state.labels()}
                self.assertEqual(kept, model.kept)
        self.assertEqual(len(refused), 11)

    @staticmethod
    def some_edit(random_source, names, labels):
        word = random_source.choices(
            ("put", "append", "drop", "rename", "copy", "snapshot", "forget", "restore", "wipe"),
            (40, 40, 10, 20, 20, 10, 6, 5, 1),
        )[0]
        name, other = (f"n{random_source.randrange(names)}" for _ in range(2))
        label = f"l{random_source.randrange(labels)}"
        if word in ("put", "append"):
            return word, name, random_source.choice("xyz\n") * random_source.choice((0, 1, 5, 150))
        return {
            "drop": (word, name),
            "rename": (word, name, other),
            "copy": (word, name, other),
            "wipe": (word,),
        }.get(word, (word, label))


class GrownTest(unittest.TestCase):
    def test_none(self):
        state = state_of(("put", "a", "1"))
        self.assertEqual(state.grown(()), state)
        self.assertEqual(state.grown([]), state)

    def test_one_behind_the_other(self):
        edits = (("put", "a", "1"), ("append", "a", "2"), ("rename", "a", "b"), ("copy", "b", "c"), ("drop", "b"))
        for each in (edits, as_lists(edits)):
            self.assertEqual(State().grown(each).pairs(), (("c", "12"),))

    def test_the_first_error(self):
        state = state_of(("put", "a", "1"))
        for edits, error in (
            ((("drop", "a"), ("drop", "a"), ("drop", "b")), ("NothingThere", "a")),
            ((("put", "b", "2"), ("rename", "a", "b"), ("drop", "c")), ("BadName", "b")),
            ((("append", "a", "x" * 400), ("drop", "c")), ("NoRoom", "signs")),
        ):
            self.assertEqual(raised(state.grown, edits), error)
        self.assertEqual(state.pairs(), (("a", "1"),))

    def test_the_edits_are_changed_later(self):
        edits = [["put", "a", "1"], ["snapshot", "s"]]
        state = State().grown(edits)
        edits[0][2] = "2"
        edits.clear()
        self.assertEqual(seen(state), ((("a", "1"),), (("s", (("a", "1"),)),)))


class BaseEditsTest(unittest.TestCase):
    def test_nothing(self):
        self.assertEqual(base_edits(State()), (("wipe",),))

    def test_names_alone(self):
        state = state_of(("put", "b", "2"), ("put", "a", "1"))
        self.assertEqual(base_edits(state), (("wipe",), ("put", "a", "1"), ("put", "b", "2")))

    def test_labels(self):
        state = state_of(
            ("put", "b", "2"), ("snapshot", "t"), ("put", "a", "1"), ("snapshot", "s"), ("wipe",), ("snapshot", "u"),
            ("put", "c", "3"),
        )
        expected = (
            ("wipe",), ("put", "a", "1"), ("put", "b", "2"), ("snapshot", "s"),
            ("wipe",), ("put", "b", "2"), ("snapshot", "t"),
            ("wipe",), ("snapshot", "u"),
            ("wipe",), ("put", "c", "3"),
        )
        self.assertEqual(base_edits(state), expected)
        self.assertIs(type(base_edits(state)), tuple)
        self.assertEqual(State().grown(expected), state)

    def test_a_full_state(self):
        state = full_state().edited(("wipe",)).grown([("put", f"m{at}", "x" * 400) for at in range(24)])
        edits = base_edits(state)
        self.assertEqual(len(edits), 8 * 26 + 25)
        self.assertEqual(State().grown(edits), state)
