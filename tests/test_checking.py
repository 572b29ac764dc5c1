"""Promises [45] to [49]: papers, and how they are looked at."""

import unittest

from mendvault.checking import belongs_holds, climbed, grown_holds, same_holds
from mendvault.digests import digest, history, root, state_digest, way
from mendvault.opening import opened
from mendvault.papers import belongs_paper, grown_paper, same_paper
from mendvault.records import edit_text
from mendvault.states import State, base_edits
from mendvault.vaults import Vault
from tests.damage import damaged
from tests.helper import SIGNS, as_lists, fixed_random, noise, raised, some_text
from tests.model import model_text
from tests.model_digests import (
    belongs_text,
    grown_text,
    model_climbed,
    model_digest,
    model_leaf,
    model_node,
    model_sides,
    model_way,
)
from tests.test_digests import some_texts
from tests.test_opening import EDITS, committed
from tests.test_promise import some_vault
from tests.test_vaults import told

# The highest number of 4,000 figures, and the next one, which has one more.
HIGHEST = 10 ** 4000 - 1

# A last leaf of 2 ** 13287 and one, a number of 4,000 figures, has one partner alone.
MANY = 2 ** 13287 + 1

# What a number is not, although Python may read it as one.
NO_NUMBERS = ("", "00", "01", "007", "+1", "-1", "-0", "1.0", "1e3", "1_0", "0x1", "a", "\u0661", "\u00b2", "1\t")


def leaves_of(state):
    return [edit_text(edit) for edit in base_edits(state)]


def one_sign_off(random_source, text):
    """The text with a sign changed, left out, put in, or moved."""
    at = random_source.randrange(len(text))
    sign = random_source.choice(SIGNS + "0123456789" * 9 + text)
    return random_source.choice((
        text[:at] + sign + text[at + 1:],
        text[:at] + text[at + 1:],
        text[:at] + sign + text[at:],
        text[:at] + text[at + 1:at + 2] + text[at:at + 1] + text[at + 2:],
    ))


class ClimbedTest(unittest.TestCase):
    def setUp(self):
        self.random = fixed_random(45)

    def test_by_hand(self):
        a = model_leaf("a")
        self.assertEqual(climbed("a", 0, 1, ()), a)
        self.assertEqual(climbed("a", 0, 2, (5,)), model_digest(f"N{a} 5"))
        self.assertEqual(climbed("a", 1, 2, [5]), model_digest(f"N5 {a}"))
        self.assertEqual(climbed("a", 1, 3, (5, 6)), model_node(model_node(5, a), 6))
        self.assertEqual(climbed("a", 2, 3, (6,)), model_node(6, a))

    def test_by_the_way(self):
        for many in range(1, 40):
            texts = some_texts(self.random, many)
            for at in range(many):
                partners = tuple(number for _, number in way(texts, at))
                for each in (partners, list(partners)):
                    self.assertEqual(climbed(texts[at], at, many, each), root(texts))

    def test_at_out_of_its_range(self):
        for at, many in ((-1, 1), (1, 1), (0, 0), (-1, 0), (1, 0), (5, 5), (6, 5), (-5, 5), (0, -1), (-2, -1),
                         (10 ** 30, 10 ** 30), (MANY, MANY)):
            for partners in ((), (1,), (1,) * 9):
                self.assertEqual(raised(climbed, "a", at, many, partners), ("BadValue", 1))

    def test_another_number_of_partners(self):
        for many in range(1, 20):
            for at in range(many):
                just = len(model_sides(at, many))
                for length in range(9):
                    expected = None if length == just else ("BadValue", 3)
                    self.assertEqual(raised(climbed, "a", at, many, (7,) * length), expected)

    def test_many_of_any_size(self):
        for many in (10 ** 18, 2 ** 61, 2 ** 61 - 1, 2 ** 61 + 1, 10 ** 100, 3 ** 500):
            for at in (0, 1, many // 3, many // 2, many - 2, many - 1, self.random.randrange(many)):
                sides = model_sides(at, many)
                partners = [self.random.randrange(2 ** 61) for _ in sides]
                self.assertEqual(climbed("a\nb", at, many, partners), model_climbed("a\nb", sides, partners))
                self.assertEqual(raised(climbed, "a\nb", at, many, partners + [0]), ("BadValue", 3))
                self.assertEqual(raised(climbed, "a\nb", at, many, partners[1:]), ("BadValue", 3))

    def test_as_many_steps_as_there_are_levels(self):
        for levels in (5000, 13287, 20000):
            many = 2 ** levels
            self.assertEqual(climbed("a", many, many + 1, (9,)), model_node(9, model_leaf("a")))
            self.assertEqual(raised(climbed, "a", 0, many, ()), ("BadValue", 3))
        partners = tuple(range(5000))
        self.assertEqual(climbed("", 0, 2 ** 5000, partners), model_climbed("", [1] * 5000, partners))
        self.assertEqual(climbed("", 2 ** 5000 - 1, 2 ** 5000, partners), model_climbed("", [0] * 5000, partners))

    def test_partners_of_any_size(self):
        for partner, figures in ((0, "0"), (10 ** 64, "1" + "0" * 64), (10 ** 64 - 1, "9" * 64),
                                 (10 ** 5000 + 7, "1" + "0" * 4999 + "7")):
            self.assertEqual(climbed("a", 1, 2, (partner,)), model_digest(f"N{figures} {model_leaf('a')}"))
            self.assertEqual(climbed("a", 0, 2, (partner,)), model_digest(f"N{model_leaf('a')} {figures}"))


class BelongsTest(unittest.TestCase):
    def setUp(self):
        self.random = fixed_random(146)

    def assert_refused(self, paper, number):
        self.assertEqual(raised(belongs_holds, paper, number), ("BadPaper", 0), paper[:100])

    def assert_belongs(self, state, name):
        """The paper of the name is what it has to be, and holds for the state alone."""
        leaves, paper, number = leaves_of(state), belongs_paper(state, name), state_digest(state)
        at = len(leaves) - len(state.names()) + state.names().index(name)
        partners = [partner for _, partner in model_way(leaves, at)]
        self.assertEqual(paper, belongs_text(at, len(leaves), edit_text(("put", name, state.text(name))), partners))
        result = belongs_holds(paper, number)
        self.assertEqual(result, (name, state.text(name)))
        self.assertIs(type(result), tuple)
        for other in (number + 1, number - 1, 0, -number, number + 2 ** 61 - 1):
            self.assert_refused(paper, other)
        return paper

    def test_by_hand(self):
        state = State().edited(("put", "a", "x\ny"))
        wipe = digest("Lwipe\n")
        self.assertEqual(belongs_paper(state, "a"), f"belongs 1 2\nput a 3\nx\ny\nby {wipe}\n")
        state = state.grown((("put", "b", ""), ("snapshot", "s"), ("drop", "a")))
        # wipe, put a, put b, snapshot, wipe, put b: the last one has no partner but to the left.
        four = root(("wipe\n", "put a 3\nx\ny\n", "put b 0\n\n", "snapshot s\n"))
        self.assertEqual(belongs_paper(state, "b"), f"belongs 5 6\nput b 0\n\nby {wipe} {four}\n")
        self.assertEqual(belongs_holds(belongs_paper(state, "b"), state_digest(state)), ("b", ""))

    def test_contents(self):
        for content in ("", "\n", "x", "by 1\n", "\nby 5\nbelongs 0 1\n", "end 5\n", "put a 0\n", " ", "x" * 400, "\n" * 400,
                        SIGNS, "a\n" * 200):
            for edits in ((), (("put", "b", "y"),), (("put", "z", ""), ("snapshot", "s"))):
                self.assert_belongs(State().edited(("put", "m", content)).grown(edits), "m")

    def test_any_state(self):
        many = 0
        for _ in range(15):
            state = some_vault(self.random, 1, 0, 4).state()
            for name in state.names():
                self.assert_belongs(state, name)
                many += 1
        self.assertGreater(many, 15)

    def test_a_full_state(self):
        state = State()
        for label in range(8):
            state = state.edited(("snapshot", f"l{label}"))
            for at in range(3):
                state = state.edited(("put", f"n{label}{at}", "x" * label))
        for name in state.names():
            self.assert_belongs(state, name)

    def test_nothing_there(self):
        state = State().grown((("put", "a", "x"), ("snapshot", "s"), ("wipe",), ("put", "b", "y")))
        for name in ("a", "s", "c", "", "B", "b b", "wipe"):
            self.assertEqual(raised(belongs_paper, state, name), ("NothingThere", name))
        self.assertEqual(raised(belongs_paper, State(), "a"), ("NothingThere", "a"))

    def test_a_put_of_a_kept_snapshot(self):
        state = State().grown((("put", "a", "old"), ("snapshot", "s"), ("put", "a", "new")))
        number, leaves = state_digest(state), leaves_of(state)
        self.assertEqual(belongs_holds(belongs_paper(state, "a"), number), ("a", "new"))
        at = leaves.index("put a 3\nold\n")
        paper = belongs_text(at, len(leaves), leaves[at], [partner for _, partner in model_way(leaves, at)])
        self.assertEqual(belongs_holds(paper, number), ("a", "old"))

    def test_one_leaf(self):
        leaf = "put a 1\nx\n"
        self.assertEqual(belongs_holds(f"belongs 0 1\n{leaf}by\n", digest("L" + leaf)), ("a", "x"))

    def test_leaves_that_are_no_puts(self):
        for leaf in ("append a 1\nx\n", "wipe\n", "drop a\n", "snapshot a\n", "rename a b\n", "", "\n", "put a 1\nx",
                     "put a 1\nxy", "put a 0\n ", "put a 1\nx\n ",
                     "put a 01\nx\n", "put a 1\nxy\n", "put a 2\nx\n", "put A 1\nx\n", "put  1\nx\n", "put a  1\nx\n",
                     "put a\nx\n", "put a 1 1\nx\n", "Put a 1\nx\n", "put a2345678b 1\nx\n", "put a 401\n" + "x" * 401 + "\n",
                     "put a 1\n%\n", "put a 1\n\t\n", "put a 2\n\u00e9x\n", "put a -0\n\n", "put a 1\nx\nput a 1\nx\n"):
            self.assert_refused(f"belongs 0 1\n{leaf}by\n", model_leaf(leaf))
            self.assert_refused(f"belongs 0 2\n{leaf}by 7\n", model_node(model_leaf(leaf), 7))
        # Each way these are taken where they are puts.
        leaf = "put a 400\n" + "x" * 400 + "\n"
        self.assertEqual(belongs_holds(f"belongs 0 2\n{leaf}by 7\n", model_node(model_leaf(leaf), 7)), ("a", "x" * 400))

    def test_no_papers(self):
        for paper in ("", "\n", "belongs", "belongs 0 1", "belongs 0 1\n", "belongs 0 1\nput a 0\n", "by\n", "put a 0\n\n",
                      "belongs 0 1\nput a 0\n\n", "belongs 0 1\nput a 0\n\nby", "grown 0\n", "same 0\n", "\n\n\n\n", "x"):
            self.assert_refused(paper, model_leaf("put a 0\n\n"))

    def test_other_lines(self):
        leaf = "put a 1\nx\n"
        number = model_node(model_leaf(leaf), 7)
        self.assertEqual(belongs_holds(f"belongs 0 2\n{leaf}by 7\n", number), ("a", "x"))
        for head in ("", "belongs", "belongs 0", "belongs 0 2 3", "belongs  0 2", "belongs 0  2", "belongs 0 2 ", " belongs 0 2",
                     "Belongs 0 2", "belong 0 2", "by 0 2", "belongs 0 2\n", "\nbelongs 0 2", "belongs\n0 2"):
            self.assert_refused(f"{head}\n{leaf}by 7\n", number)
        for tail in ("", "by\n", "by 7", "by  7\n", "by 7 \n", " by 7\n", "By 7\n", "by 7\n\n", "by 7\nby 7\n", "by 7\nx", "by 7 8\n",
                     "by7\n", "by\n7\n", "7\n", "belongs 7\n", "\nby 7\n"):
            self.assert_refused(f"belongs 0 2\n{leaf}{tail}", number)

    def test_words_that_are_no_numbers(self):
        leaf = "put a 1\nx\n"
        for word in NO_NUMBERS:
            for paper, number in ((f"belongs {word} 2\n{leaf}by 7\n", model_node(model_leaf(leaf), 7)),
                                  (f"belongs {word} 2\n{leaf}by 7\n", model_node(7, model_leaf(leaf))),
                                  (f"belongs 0 {word}\n{leaf}by 7\n", model_node(model_leaf(leaf), 7)),
                                  (f"belongs 0 2\n{leaf}by {word}\n", model_digest(f"N{model_leaf(leaf)} {word}")),
                                  (f"belongs 0 2\n{leaf}by {word}\n", model_node(model_leaf(leaf), 1))):
                self.assert_refused(paper, number)

    def test_numbers_of_4000_figures_and_one_more(self):
        leaf = "put a 1\nx\n"
        number = model_digest("N" + "9" * 4000 + f" {model_leaf(leaf)}")
        self.assertEqual(belongs_holds(f"belongs 1 2\n{leaf}by {HIGHEST}\n", number), ("a", "x"))
        number = model_digest("N1" + "0" * 4000 + f" {model_leaf(leaf)}")
        self.assert_refused(f"belongs 1 2\n{leaf}by {HIGHEST + 1}\n", number)
        self.assertEqual((len(str(MANY)), len(str(2 * MANY))), (4000, 4001))
        number = model_node(7, model_leaf(leaf))
        self.assertEqual(belongs_holds(f"belongs {MANY - 1} {MANY}\n{leaf}by 7\n", number), ("a", "x"))
        self.assert_refused(f"belongs {2 * MANY - 2} {2 * MANY - 1}\n{leaf}by 7\n", number)
        self.assert_refused(f"belongs 1 {'9' * 4001}\n{leaf}by 7\n", number)
        self.assert_refused(f"belongs {'9' * 5000} {'9' * 5000}\n{leaf}by 7\n", number)

    def test_numbers_out_of_their_range(self):
        leaf = "put a 1\nx\n"
        for at, many, partners in ((0, 0, ""), (1, 1, ""), (2, 2, " 7"), (5, 2, " 7"), (0, 1, " 7"), (0, 2, ""), (0, 3, " 7"),
                                   (0, 2, " 7 7"), (2, 3, " 7 7")):
            for number in (model_leaf(leaf), model_node(model_leaf(leaf), 7), model_node(7, model_leaf(leaf))):
                self.assert_refused(f"belongs {at} {many}\n{leaf}by{partners}\n", number)

    def test_at_and_many_are_not_vouched_for(self):
        state = State().edited(("put", "a", "x"))
        paper = belongs_paper(state, "a")
        self.assertEqual(paper[:12], "belongs 1 2\n")
        for at, many in ((2, 3), (4, 5), (2 ** 40, 2 ** 40 + 1)):
            self.assertEqual(belongs_holds(f"belongs {at} {many}\n" + paper[12:], state_digest(state)), ("a", "x"))
        for at, many in ((0, 2), (0, 1), (1, 3), (1, 4)):
            self.assert_refused(f"belongs {at} {many}\n" + paper[12:], state_digest(state))

    def test_one_sign_off(self):
        """What is not refused tells what is true: promise [49]."""
        state = State().grown((("put", "a", "one\ntwo"), ("put", "b", "three"), ("snapshot", "s"), ("put", "b", "four\n"),
                               ("put", "c", "")))
        number = state_digest(state)
        taken = 0
        for name in state.names():
            paper = belongs_paper(state, name)
            for at in range(len(paper)):
                for sign in SIGNS:
                    taken += self.check_off(paper[:at] + sign + paper[at + 1:], paper, number, (name, state.text(name)))
            for _ in range(300):
                taken += self.check_off(one_sign_off(self.random, paper), paper, number, (name, state.text(name)))
        self.assertGreater(taken, 0)

    def check_off(self, changed, paper, number, told):
        """Whether the changed paper is taken: it is so only if nothing but AT and MANY are others."""
        if changed == paper or raised(belongs_holds, changed, number) is None:
            self.assertEqual(belongs_holds(changed, number), told)
            self.assertEqual(changed[changed.index("\n"):], paper[paper.index("\n"):])
            return changed != paper
        self.assert_refused(changed, number)
        return False

    def test_papers_of_other_states(self):
        states = [some_vault(self.random, 1, 0, 2).state() for _ in range(8)]
        for state in states:
            for other in states:
                for name in state.names():
                    if state != other:
                        told = raised(belongs_holds, belongs_paper(state, name), state_digest(other))
                        self.assertEqual(told, ("BadPaper", 0))

    def test_any_texts(self):
        for _ in range(200):
            text = some_text(self.random, self.random.randrange(60))
            self.assert_refused(text, 7)
            self.assert_refused("belongs 0 1\n" + text, 7)


class GrownTest(unittest.TestCase):
    def setUp(self):
        self.random = fixed_random(47)

    def assert_refused(self, paper, elder, newer):
        self.assertEqual(raised(grown_holds, paper, elder, newer), ("BadPaper", 0), paper[:100])

    def test_each_many(self):
        told = history(EDITS)
        digests = [model_digest(model_text(number, edits)) for number, edits in enumerate(EDITS)]
        for many in range(6):
            for transactions in (EDITS, as_lists(EDITS), list(EDITS)):
                self.assertEqual(grown_paper(transactions, many), grown_text(many, digests[many:]))
            paper = grown_paper(EDITS, many)
            for elder in range(6):
                for newer in range(6):
                    if elder == many and newer == 5:
                        self.assertEqual(grown_holds(paper, told[elder], told[newer]), 5 - many)
                        self.assertIs(type(grown_holds(paper, told[elder], told[newer])), int)
                    elif many < 5 or elder != newer:
                        self.assert_refused(paper, told[elder], told[newer])

    def test_of_no_transaction(self):
        self.assertEqual(grown_paper((), 0), "grown 0\n")
        self.assertEqual(grown_holds("grown 0\n", history(())[0], history([])[0]), 0)
        # It tells that both are the same, whatever they are.
        self.assertEqual(grown_holds("grown 9\n", 5, 5), 0)
        self.assert_refused("grown 9\n", 5, 6)

    def test_many_out_of_its_range(self):
        for transactions in ((), EDITS, EDITS[:1]):
            for many in (len(transactions) + 1, len(transactions) + 2, 10 ** 30, -1):
                self.assertEqual(raised(grown_paper, transactions, many), ("BadValue", 1))

    def test_nothing_more_is_asked_of_many(self):
        told, paper = history(EDITS), grown_paper(EDITS, 2)
        for many in (0, 1, 3, 5, 6, 10 ** 30, HIGHEST):
            self.assertEqual(grown_holds(f"grown {many}" + paper[7:], told[2], told[5]), 3)
        for many in NO_NUMBERS + (str(HIGHEST + 1), "9" * 5000, "0" * 4000, "1 1", " 1", "1 "):
            self.assert_refused(f"grown {many}" + paper[7:], told[2], told[5])

    def test_other_lines(self):
        told, paper = history(EDITS), grown_paper(EDITS, 3)
        head, *lines = paper.split("\n")[:-1]
        self.assertEqual(len(lines), 2)
        self.assertEqual(grown_holds("\n".join([head] + lines) + "\n", told[3], told[5]), 2)
        for wrong in (
            "\n".join([head] + lines), paper + "x", paper + " ", paper + lines[0], "\n".join([head] + lines) + "\n\n", "\n".join([head, ""] + lines) + "\n",
            "\n".join(lines) + "\n", "\n".join([head] + lines[:1]) + "\n", "\n".join([head] + lines[::-1]) + "\n",
            "\n".join([head] + lines + lines[:1]) + "\n", "\n".join([head] + lines) + "\nx\n",
            "\n".join([head] + lines) + "\n0\n", "\n".join([head] + lines) + " \n", "\n".join([head, " ".join(lines)]) + "\n",
            "\n".join([head + " "] + lines) + "\n", "\n".join([" " + head] + lines) + "\n", "\n" + paper,
            "\n".join(["Grown 3"] + lines) + "\n", "\n".join(["grown"] + lines) + "\n", "\n".join(["3"] + lines) + "\n",
            "\n".join([head, "0" + lines[0], lines[1]]) + "\n", "\n".join([head, "+" + lines[0], lines[1]]) + "\n",
            "\n".join([head, " " + lines[0], lines[1]]) + "\n", "", "\n", "grown", "grown 3",
        ):
            self.assert_refused(wrong, told[3], told[5])

    def test_digests_of_4000_figures_and_one_more(self):
        for many, taken in ((10 ** 60, True), (HIGHEST, True), (HIGHEST + 1, False), (10 ** 4299, False)):
            newer = model_digest(f"C5 {many}")
            if taken:
                self.assertEqual(grown_holds(f"grown 0\n{many}\n", 5, newer), 1)
                self.assertEqual(grown_holds(f"grown 0\n{many}\n0\n", 5, model_digest(f"C{newer} 0")), 2)
            else:
                self.assert_refused(f"grown 0\n{many}\n", 5, newer)
        for word in NO_NUMBERS:
            self.assert_refused(f"grown 0\n{word}\n", 5, model_digest(f"C5 {word}"))

    def test_one_sign_off(self):
        """Promise [49]: nothing but MANY may be another one."""
        told, paper = history(EDITS), grown_paper(EDITS, 2)
        texts = [paper[:at] + sign + paper[at + 1:] for at in range(len(paper)) for sign in " \n0129aC-~"]
        for changed in texts + [one_sign_off(self.random, paper) for _ in range(500)]:
            if changed == paper or raised(grown_holds, changed, told[2], told[5]) is None:
                self.assertEqual(grown_holds(changed, told[2], told[5]), 3)
                self.assertEqual(changed[changed.index("\n"):], paper[paper.index("\n"):])
            else:
                self.assert_refused(changed, told[2], told[5])

    def test_histories_that_parted(self):
        one, other = EDITS[:3], EDITS[:2] + ((("wipe",),),)
        told = history(one)
        self.assertEqual(grown_holds(grown_paper(one, 2), told[2], told[3]), 1)
        self.assertEqual(grown_holds(grown_paper(other, 2), told[2], history(other)[3]), 1)
        self.assert_refused(grown_paper(other, 2), told[2], told[3])
        self.assert_refused(grown_paper(one, 2), told[2], history(other)[3])

    def test_of_vaults_that_are_opened(self):
        vault = committed(2, 1)
        elder = history(vault.transactions())
        vault.put("z", "z")
        vault.commit()
        paper = grown_paper(vault.transactions(), 5)
        self.assertEqual(grown_holds(paper, elder[5], history(vault.transactions())[6]), 1)


def same_state(k, r):
    """A vault with the state of those that committed all edits, by another history."""
    vault = Vault(k, r)
    vault.put("d", "one\ntwo")
    vault.put("c", "x" * 200 + "y" * 130)
    vault.commit()
    vault.snapshot("t")
    vault.commit()
    return vault


class SameTest(unittest.TestCase):
    def setUp(self):
        self.random = fixed_random(48)

    def assert_holds(self, expected, paper, pieces, others):
        for one, other in ((pieces, others), (others, pieces), (as_lists(pieces), as_lists(others))):
            self.assertIs(same_holds(paper, one, other), expected, paper[:100])

    def test_unlike_layouts_and_histories(self):
        one = committed(2, 1)
        number = state_digest(one.state())
        for k, r in ((2, 1), (1, 0), (6, 4)):
            other = same_state(k, r)
            self.assertEqual(one.state(), other.state())
            for each in (same_paper(one, other), same_paper(other, one), same_paper(one, one)):
                self.assertEqual(each, f"same {number}\n")
            self.assert_holds(True, f"same {number}\n", one.volumes(), other.volumes())
            other.compact(3, 2)
            self.assertEqual(same_paper(one, other), f"same {number}\n")
            self.assert_holds(True, f"same {number}\n", one.volumes(), other.volumes())

    def test_damage_within_the_bound(self):
        one, other = committed(2, 1), same_state(3, 2)
        paper = same_paper(one, other)
        outcomes = []
        for _ in range(30):
            pieces = [damaged(self.random, volume, 0.05)[0] for volume in one.volumes()]
            outcomes.append(opened(pieces).state == one.state())
            self.assert_holds(outcomes[-1], paper, tuple(pieces), other.volumes()[2:])
        self.assertEqual(set(outcomes), {True, False})
        self.assert_holds(True, paper, one.volumes()[1:], other.volumes()[2:])

    def test_states_that_are_unlike(self):
        one = committed(2, 1)
        for edit in (("wipe",), ("drop", "c"), ("append", "c", "x"), ("put", "e", ""), ("snapshot", "u"), ("forget", "t"),
                     ("rename", "c", "e")):
            other = same_state(2, 1)
            word, *arguments = edit
            getattr(other, word)(*arguments)
            # What is pending does not count.
            paper = same_paper(one, other)
            other.commit()
            self.assertEqual(raised(same_paper, one, other), ("NothingThere", "state"))
            self.assertEqual(raised(same_paper, other, one), ("NothingThere", "state"))
            self.assert_holds(False, paper, one.volumes(), other.volumes())
            self.assert_holds(False, f"same {state_digest(other.state())}\n", one.volumes(), other.volumes())

    def test_the_vaults_stay_as_they_were(self):
        one, other = committed(2, 1), same_state(3, 2)
        other.put("z", "pending")
        before = told(one), told(other)
        self.assertEqual(same_paper(vault=one, other=other), same_paper(other, one))
        self.assertEqual((told(one), told(other)), before)
        other.commit()
        before = told(one), told(other)
        self.assertEqual(raised(same_paper, one, other), ("NothingThere", "state"))
        self.assertEqual((told(one), told(other)), before)

    def test_what_a_label_keeps(self):
        one, other = Vault(1, 0), Vault(1, 0)
        for vault, content in ((one, "x"), (other, "y")):
            vault.put("a", content)
            vault.snapshot("s")
            vault.wipe()
            vault.commit()
        self.assertEqual(raised(same_paper, one, other), ("NothingThere", "state"))

    def test_too_much_lost(self):
        one, other = committed(2, 1), same_state(2, 1)
        paper = same_paper(one, other)
        self.assert_holds(False, paper, one.volumes()[2:], other.volumes())
        self.assert_holds(False, paper, (), other.volumes())
        self.assert_holds(False, paper, [noise(self.random, 100)], one.volumes())

    def test_where_nothing_is_read(self):
        paper = same_paper(Vault(1, 0), Vault(6, 4))
        self.assertEqual(paper, f"same {digest('Lwipe' + chr(10))}\n")
        wiped = Vault(2, 1)
        wiped.wipe()
        wiped.commit()
        for pieces in ((), ((),), [noise(self.random, 60)], wiped.volumes(), committed(2, 1).volumes()[2:]):
            self.assert_holds(True, paper, (), pieces)
            self.assert_holds(False, "same 7\n", (), pieces)

    def test_no_papers(self):
        number = state_digest(State())
        self.assert_holds(True, f"same {number}\n", (), ())
        for paper in ("", "\n", "same", "same\n", "same \n", f"same {number}", f"same {number}\n\n", f"same {number}\nx",
                      f"same {number}\nsame {number}\n", f" same {number}\n", f"same  {number}\n", f"same {number} \n",
                      f"same 0{number}\n", f"same +{number}\n", f"Same {number}\n", f"{number}\n", f"same {number} {number}\n",
                      f"\nsame {number}\n", f"same\n{number}\n", f"same {number + 1}\n", f"same -{number}\n",
                      f"grown {number}\n", f"same {number + 2 ** 61 - 1}\n", f"same {HIGHEST}\n", f"same {HIGHEST + 1}\n",
                      f"same {'9' * 5000}\n", "same x\n", "belongs 0 1\nput a 0\n\nby\n"):
            self.assert_holds(False, paper, (), ())
        for word in NO_NUMBERS:
            self.assert_holds(False, f"same {word}\n", (), ())

    def test_one_sign_off(self):
        """Promise [49]."""
        one, other = committed(1, 0, EDITS[:1]), committed(1, 1, EDITS[:1])
        paper = same_paper(one, other)
        for _ in range(300):
            changed = one_sign_off(self.random, paper)
            self.assertIs(same_holds(changed, one.volumes(), other.volumes()), changed == paper)
