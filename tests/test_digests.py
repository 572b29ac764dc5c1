"""Promises [44], [46], [47]: digests, roots and ways, the digests of states and of histories."""

import unittest

from mendvault.digests import digest, history, root, state_digest, way
from mendvault.records import edit_text, transaction_text
from mendvault.states import State, base_edits
from mendvault.vaults import Vault
from tests.helper import SIGNS, as_lists, fixed_random, raised, some_text
from tests.model import model_text
from tests.model_digests import model_digest, model_leaf, model_node, model_root, model_way
from tests.test_opening import EDITS, committed
from tests.test_promise import some_vault


def some_texts(random_source, many):
    return tuple(some_text(random_source, random_source.randrange(12)) for _ in range(many))


class DigestTest(unittest.TestCase):
    def test_by_hand(self):
        self.assertEqual(digest(""), 7)
        self.assertEqual(digest("a"), 7 * 263 + 98)
        self.assertEqual(digest("ab"), (7 * 263 + 98) * 263 + 99)
        self.assertEqual(digest("\n"), 7 * 263 + 11)
        self.assertEqual(digest("E"), 1911)

    def test_the_bound(self):
        # 7 * 263 ** 7 is still below the bound, 7 * 263 ** 8 is not.
        blanks = 33 * sum(263 ** at for at in range(7))
        self.assertEqual(digest(" " * 7), 7 * 263 ** 7 + blanks)
        whole = 7 * 263 ** 8 + 33 * sum(263 ** at for at in range(8))
        self.assertGreater(whole, 2305843009213693951)
        self.assertEqual(digest(" " * 8), whole % 2305843009213693951)

    def test_each_sign(self):
        self.assertEqual([digest(sign) for sign in SIGNS], [1842 + ord(sign) for sign in SIGNS])
        self.assertEqual(digest(SIGNS), model_digest(SIGNS))

    def test_any_text(self):
        random_source = fixed_random(44)
        for many in (2, 7, 8, 9, 10, 100, 3000):
            text = some_text(random_source, many)
            self.assertEqual(digest(text), model_digest(text))
            self.assertLess(digest(text), 2 ** 61 - 1)


class RootTest(unittest.TestCase):
    def setUp(self):
        self.random = fixed_random(144)

    def test_of_no_text(self):
        for texts in ((), []):
            self.assertEqual(root(texts), 1911)

    def test_of_one_text(self):
        self.assertEqual(root(("",)), digest("L"))
        self.assertEqual(root(["a\nb"]), digest("La\nb"))

    def test_of_two_texts(self):
        one, other = digest("La"), digest("Lb")
        self.assertEqual(root(("a", "b")), digest(f"N{one} {other}"))
        self.assertEqual(root(("b", "a")), digest(f"N{other} {one}"))
        self.assertEqual(root(("a", "a")), digest(f"N{one} {one}"))

    def test_of_three_texts(self):
        both = digest(f"N{digest('La')} {digest('Lb')}")
        self.assertEqual(root(("a", "b", "c")), digest(f"N{both} {digest('Lc')}"))

    def test_of_five_texts(self):
        a, b, c, d, e = (digest("L" + sign) for sign in "abcde")
        four = digest(f"N{digest(f'N{a} {b}')} {digest(f'N{c} {d}')}")
        self.assertEqual(root(list("abcde")), digest(f"N{four} {e}"))

    def test_of_many_texts(self):
        for many in list(range(70)) + [127, 128, 129, 300]:
            texts = some_texts(self.random, many)
            self.assertEqual(root(texts), model_root(texts))
            self.assertEqual(root(list(texts)), model_root(texts))

    def test_texts_stay_as_they_were(self):
        texts = ["a", "b", "c"]
        root(texts)
        way(texts, 1)
        self.assertEqual(texts, ["a", "b", "c"])


class WayTest(unittest.TestCase):
    def setUp(self):
        self.random = fixed_random(244)

    def test_by_hand(self):
        a, b, c = (model_leaf(sign) for sign in "abc")
        self.assertEqual(way(("a",), 0), ())
        self.assertEqual(way(("a", "b"), 0), ((1, b),))
        self.assertEqual(way(("a", "b"), 1), ((0, a),))
        self.assertEqual(way(("a", "b", "c"), 0), ((1, b), (1, c)))
        self.assertEqual(way(("a", "b", "c"), 1), ((0, a), (1, c)))
        # It has no partner in the first level.
        self.assertEqual(way(("a", "b", "c"), 2), ((0, model_node(a, b)),))
        self.assertEqual(way(("a", "b", "c", "d", "e"), 4), ((0, model_root(("a", "b", "c", "d"))),))

    def test_the_first_and_the_last_one(self):
        for many in range(1, 40):
            texts = some_texts(self.random, many)
            first, last = way(texts, 0), way(texts, many - 1)
            self.assertEqual([side for side, _ in first], [1] * (many - 1).bit_length())
            self.assertEqual({side for side, _ in last}, {0} if many > 1 else set())
            # The last one has a partner where its number has a bit.
            self.assertEqual(len(last), bin(many - 1).count("1"))

    def test_each_of_many(self):
        for many in range(1, 35):
            texts = some_texts(self.random, many)
            for at in range(many):
                result = way(texts, at)
                self.assertEqual(result, model_way(texts, at))
                self.assertEqual({type(each) for each in result} | {type(result)}, {tuple})
                self.assertEqual(way(list(texts), at), result)

    def test_none_of_them(self):
        for many in (0, 1, 2, 5):
            texts = some_texts(self.random, many)
            for at in (-1, many, many + 1, -many, 10 ** 30):
                if not 0 <= at < many:
                    self.assertEqual(raised(way, texts, at), ("BadValue", 1))
                    self.assertEqual(raised(way, list(texts), at), ("BadValue", 1))


class StateDigestTest(unittest.TestCase):
    def test_by_hand(self):
        state = State().edited(("put", "a", "x\ny"))
        self.assertEqual(state_digest(state), root(("wipe\n", "put a 3\nx\ny\n")))
        state = state.grown((("snapshot", "s"), ("put", "b", ""), ("drop", "a")))
        self.assertEqual(state_digest(state), root((
            "wipe\n", "put a 3\nx\ny\n", "snapshot s\n", "wipe\n", "put b 0\n\n",
        )))

    def test_a_state_without_names(self):
        self.assertEqual(state_digest(State()), digest("Lwipe\n"))
        self.assertEqual(state_digest(State().edited(("snapshot", "s"))), root(("wipe\n", "snapshot s\n", "wipe\n")))

    def test_any_state(self):
        random_source = fixed_random(46)
        for _ in range(20):
            state = some_vault(random_source, 1, 0, 3).state()
            self.assertEqual(state_digest(state), model_root([edit_text(edit) for edit in base_edits(state)]))

    def test_it_hangs_on_the_state_alone(self):
        one, other = committed(2, 1), Vault(6, 4)
        for edits in ((("put", "d", "one\ntwo"), ("put", "c", "x" * 200 + "y" * 130), ("snapshot", "t")),):
            for word, *arguments in edits:
                getattr(other, word)(*arguments)
        other.commit()
        self.assertEqual(one.state(), other.state())
        self.assertEqual(state_digest(one.state()), state_digest(other.state()))
        digests = {state_digest(one.state())}
        for edit in (("wipe",), ("put", "c", "x"), ("append", "d", "x"), ("forget", "t"), ("snapshot", "u"),
                     ("rename", "c", "e"), ("copy", "c", "e")):
            digests.add(state_digest(one.state().edited(edit)))
        self.assertEqual(len(digests), 8)


class HistoryTest(unittest.TestCase):
    def test_by_hand(self):
        begin = 7 * 263 + ord("H") + 1
        self.assertEqual(history(()), (begin,))
        self.assertEqual(history([]), (begin,))
        first = digest(f"C{begin} {digest('tx 0 0' + chr(10) + 'end 102427745' + chr(10))}")
        self.assertEqual(history(((),)), (begin, first))

    def test_each_transaction_by_its_number(self):
        expected = [model_digest("H")]
        for number, edits in enumerate(EDITS):
            expected.append(model_digest(f"C{expected[-1]} {model_digest(model_text(number, edits))}"))
            for transactions in (EDITS[:number + 1], as_lists(EDITS[:number + 1])):
                result = history(transactions)
                self.assertEqual(result, tuple(expected))
                self.assertIs(type(result), tuple)

    def test_equal_transactions_have_unlike_digests(self):
        self.assertEqual(len(set(history(((),) * 50))), 51)

    def test_of_a_vault(self):
        vault = committed(3, 1)
        texts = [digest(transaction_text(number, edits)) for number, edits in enumerate(vault.transactions())]
        told = history(vault.transactions())
        self.assertEqual(len(told), vault.count() + 1)
        for at, each in enumerate(texts):
            self.assertEqual(told[at + 1], digest(f"C{told[at]} {each}"))
