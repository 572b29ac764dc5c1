"""Promises [17], [18]: edits and transactions."""

import unittest

from mendvault.records import edit_text, is_name, read_transaction, transaction_text
from tests.helper import SIGNS, fixed_random, raised, slow_sum, some_text

# One edit of each kind, with its text.
EDITS = (
    (("put", "note", "hello"), "put note 5\nhello\n"),
    (("put", "a", ""), "put a 0\n\n"),
    (("put", "a", "\n"), "put a 1\n\n\n"),
    (("put", "a", "end 5\nwipe\n\n"), "put a 12\nend 5\nwipe\n\n\n"),
    (("append", "z9", "one\ntwo"), "append z9 7\none\ntwo\n"),
    (("drop", "note"), "drop note\n"),
    (("rename", "note", "other"), "rename note other\n"),
    (("copy", "a", "a"), "copy a a\n"),
    (("snapshot", "monday"), "snapshot monday\n"),
    (("forget", "end"), "forget end\n"),
    (("restore", "a2345678"), "restore a2345678\n"),
    (("wipe",), "wipe\n"),
)


def with_sum(text):
    """The text with the line behind it that tells its sum."""
    return f"{text}end {slow_sum([ord(sign) for sign in text])}\n"


def some_name(random_source):
    letters = "abcdefghijklmnopqrstuvwxyz"
    many = random_source.randrange(8)
    return random_source.choice(letters) + "".join(random_source.choice(letters + "0123456789") for _ in range(many))


def some_edit(random_source):
    word = random_source.choice(EDITS)[0][0]
    if word in ("put", "append"):
        return word, some_name(random_source), some_text(random_source, random_source.choice((0, 1, 20, 400)))
    many = {"rename": 2, "copy": 2, "wipe": 0}.get(word, 1)
    return word, *[some_name(random_source) for _ in range(many)]


class IsNameTest(unittest.TestCase):
    def test_names(self):
        for word in ("a", "z", "m5", "a0", "a9", "note", "abcdefgh", "z9999999", "put", "end", "wipe"):
            self.assertIs(is_name(word), True, word)

    def test_no_names(self):
        words = ("", "abcdefghi", "a" * 100, "1", "1a", "0", "A", "Note", "nOte", "note ", " note", "no te", "a_b", "_a")
        for word in words + ("a-b", "a\n", "\na", "\n", "a.", "", "{", "`", "a`", "a{", "a:", "a/"):
            self.assertIs(is_name(word), False, word)

    def test_signs_of_other_scripts(self):
        for word in ("\u00e4", "a\u00e4", "a\u00b2", "\u0430", "a\u0661", "\uff41", "a\u00df", "%", "a%"):
            self.assertIs(is_name(word), False, word)

    def test_lengths(self):
        for many in range(20):
            self.assertIs(is_name("a" * many), 1 <= many <= 8)
            self.assertIs(is_name("a" + "1" * many), many <= 7)

    def test_every_sign_at_either_place(self):
        for sign in SIGNS:
            self.assertIs(is_name(sign), "a" <= sign <= "z")
            self.assertIs(is_name("a" + sign), "a" <= sign <= "z" or "0" <= sign <= "9")
            self.assertIs(is_name("abcdefg" + sign), "a" <= sign <= "z" or "0" <= sign <= "9")


class EditTextTest(unittest.TestCase):
    def test_each_kind(self):
        for edit, text in EDITS:
            self.assertEqual(edit_text(edit), text)

    def test_contents_of_400_signs(self):
        self.assertEqual(edit_text(("put", "a", "x" * 400)), "put a 400\n" + "x" * 400 + "\n")
        self.assertEqual(edit_text(("append", "a", "\n" * 400)), "append a 400\n" + "\n" * 401)

    def test_every_sign(self):
        self.assertEqual(edit_text(("put", "a", SIGNS)), "put a 95\n" + SIGNS + "\n")


class TransactionTextTest(unittest.TestCase):
    def test_by_hand(self):
        self.assertEqual(transaction_text(0, ()), "tx 0 0\nend 102427745\n")
        self.assertEqual(transaction_text(0, ()), with_sum("tx 0 0\n"))
        self.assertEqual(transaction_text(0, (("put", "note", "hello"),)), "tx 0 1\nput note 5\nhello\nend 227801970\n")

    def test_all_kinds(self):
        text = "tx 16383 12\n" + "".join(text for _, text in EDITS)
        self.assertEqual(transaction_text(16383, [edit for edit, _ in EDITS]), with_sum(text))

    def test_numbers(self):
        for number in (0, 1, 9, 10, 127, 128, 16383):
            self.assertEqual(transaction_text(number, (("wipe",),)), with_sum(f"tx {number} 1\nwipe\n"))

    def test_many_edits(self):
        for many in (0, 1, 9, 10, 40, 41, 300):
            text = f"tx 7 {many}\n" + "drop a\n" * many
            self.assertEqual(transaction_text(7, (("drop", "a"),) * many), with_sum(text))


class ReadTransactionTest(unittest.TestCase):
    def setUp(self):
        self.random = fixed_random(18)

    def assert_bad(self, text):
        self.assertEqual(raised(read_transaction, text), ("BadText", 0), text)

    def assert_bad_body(self, text):
        """Bad, although its sum is right."""
        self.assert_bad(with_sum(text))

    def assert_read(self, text, number, edits):
        result = read_transaction(text)
        self.assertEqual(result, (number, tuple(edits)))
        self.assertIs(type(result), tuple)
        self.assertIs(type(result[1]), tuple)
        self.assertEqual({type(edit) for edit in result[1]} | {tuple}, {tuple})

    def test_each_kind(self):
        for edit, text in EDITS:
            self.assert_read(with_sum("tx 5 1\n" + text), 5, [edit])

    def test_all_kinds(self):
        text = "tx 16383 12\n" + "".join(text for _, text in EDITS)
        self.assert_read(with_sum(text), 16383, [edit for edit, _ in EDITS])

    def test_no_edits(self):
        self.assert_read(with_sum("tx 0 0\n"), 0, ())

    def test_numbers(self):
        for number in (0, 1, 9, 10, 9999, 10000, 16383):
            self.assert_read(with_sum(f"tx {number} 1\nwipe\n"), number, [("wipe",)])

    def test_any_number_of_edits(self):
        for many in (1, 9, 10, 40, 41, 500):
            self.assert_read(with_sum(f"tx 3 {many}\n" + "put a 1\nx\n" * many), 3, [("put", "a", "x")] * many)

    def test_there_and_back(self):
        for _ in range(100):
            edits = [some_edit(self.random) for _ in range(self.random.randrange(6))]
            number = self.random.randrange(16384)
            self.assert_read(transaction_text(number, edits), number, edits)

    def test_contents(self):
        for size in (0, 1, 9, 10, 99, 100, 399, 400):
            for word in ("put", "append"):
                for content in ("x" * size, "\n" * size, some_text(self.random, size)):
                    self.assert_read(with_sum(f"tx 0 1\n{word} a {size}\n{content}\n"), 0, [(word, "a", content)])
        self.assert_bad_body("tx 0 1\nput a 401\n" + "x" * 401 + "\n")
        self.assert_bad_body("tx 0 1\nappend a 1000\n" + "x" * 1000 + "\n")

    def test_names(self):
        for line in ("put {} 0\n\n", "append {} 0\n\n", "drop {}\n", "rename {} b\n", "rename b {}\n", "copy {} b\n",
                     "copy b {}\n", "snapshot {}\n", "forget {}\n", "restore {}\n"):
            for name in ("a", "a2345678"):
                text = with_sum("tx 0 1\n" + line.format(name))
                self.assertEqual(transaction_text(*read_transaction(text)), text)
            for name in ("", "a23456789", "A", "1", "a-", "a b", " a", "a ", "\n"):
                self.assert_bad_body("tx 0 1\n" + line.format(name))

    def test_no_texts(self):
        for text in ("", "\n", "x", "tx", "tx ", "tx 0", "tx 0 0", "tx 0 0\n", "end", "end 268435455\n", "end \n", "\n\n"):
            self.assert_bad(text)

    def test_whole_texts_alone(self):
        text = with_sum("tx 0 1\nput a 3\nend\n")
        self.assert_read(text, 0, [("put", "a", "end")])
        for many in range(len(text)):
            self.assert_bad(text[:many])
            self.assert_bad(text[many + 1:])
            self.assert_bad(text + text[:many + 1])
        self.assert_bad("\n" + text)
        self.assert_bad(text + "\n")
        self.assert_bad(text + " ")

    def test_the_first_line(self):
        for line in ("tx 0 1 ", "tx  0 1", " tx 0 1", "tx 0  1", "tx 0 1 1", "tx 0", "tx", "TX 0 1", "ty 0 1", "0 1",
                     "txx 0 1", "tx\n0 1", "", "tx - 1", "tx a 1", "tx 0 a", "tx 0 ", "tx  1", "tx +0 1", "tx -0 1",
                     "tx 0 +1", "tx 0 -1", "tx 0x0 1", "tx 0_0 1", "tx 0. 1", "tx -1 1", "tx None 1", "tx 0 None"):
            self.assert_bad_body(line + "\nwipe\n")

    def test_noughts_ahead_of_numbers(self):
        for body in ("tx 00 1\nwipe\n", "tx 05 1\nwipe\n", "tx 0005 1\nwipe\n", "tx 00000 1\nwipe\n", "tx 5 01\nwipe\n",
                     "tx 5 1\nput a 01\nx\n", "tx 5 1\nput a 00\n\n", "tx 5 1\nappend a 001\nx\n", "tx 0 00\n"):
            self.assert_bad_body(body)
        right = with_sum("tx 0 1\nwipe\n")
        self.assert_bad(right.replace("end ", "end 0"))
        self.assert_bad(right.replace("end ", "end 00"))

    def test_numbers_out_of_their_range(self):
        for number in (16384, 16385, 20000, 99999, 100000, 10 ** 18, 10 ** 400, 10 ** 5000):
            digits = "1" + "0" * 5000 if number == 10 ** 5000 else str(number)
            self.assert_bad_body(f"tx {digits} 1\nwipe\n")
            self.assert_bad_body(f"tx 0 {digits}\nwipe\n")
            self.assert_bad_body(f"tx 0 1\nput a {digits}\nx\n")
            self.assert_bad(f"tx 0 1\nwipe\nend {digits}\n")

    def test_wrong_counts(self):
        for many in range(5):
            for told in range(6):
                if told != many:
                    self.assert_bad_body(f"tx 0 {told}\n" + "wipe\n" * many)

    def test_wrong_sums(self):
        text = "tx 0 1\nwipe\n"
        number = slow_sum([ord(sign) for sign in text])
        for wrong in (number + 1, number - 1, 0, 2 ** 28 - 1, number + 2 ** 28, number * 10, number // 10, -number):
            self.assert_bad(f"{text}end {wrong}\n")
        for end in ("end\n", "end \n", f"end {number}", f"end  {number}\n", f"end {number} \n", f"END {number}\n",
                    f"end {number}\n\n", f" end {number}\n", f"end {number} 1\n", f"end +{number}\n", f"{number}\n"):
            self.assert_bad(text + end)

    def test_wrong_edits(self):
        for line in ("", " ", "wip", "wipes", "wipe ", " wipe", "Wipe", "wipe a", "drop", "drop ", "drop a b", "drop  a",
                     "drop a ", "rename a", "rename a b c", "rename a  b", "copy a", "copy a b c", "snapshot",
                     "snapshot a b", "forget", "restore", "restore a b", "put", "put a", "put a 0 0", "tx",
                     "put 0", "append a", "append", "ends 0", "endx", "put a x", "put a -1", "put a  0", "put a 1.0"):
            self.assert_bad_body(f"tx 0 1\n{line}\n")
            self.assert_bad_body(f"tx 0 1\n{line}\n\n")
            self.assert_bad_body(f"tx 0 2\n{line}\nwipe\n")

    def test_contents_of_another_length(self):
        for size, content in ((0, "x"), (1, ""), (1, "xy"), (2, "x"), (400, "x" * 399), (399, "x" * 400), (5, "")):
            self.assert_bad_body(f"tx 0 1\nput a {size}\n{content}\n")
            self.assert_bad_body(f"tx 0 2\nput a {size}\n{content}\nwipe\n")

    def test_contents_of_what_is_no_sign(self):
        for wrong in ("%", "\t", "\x7f", "\x00", "\r", "\u00e9"):
            for content in (wrong, "x" + wrong + "y"):
                self.assert_bad_body(f"tx 0 1\nput a {len(content)}\n{content}\n")

    def test_contents_that_look_like_edits(self):
        content = "x\nwipe\nend 0\ntx 0 1\nput a 3\n"
        self.assert_read(with_sum(f"tx 0 1\nput a {len(content)}\n{content}\n"), 0, [("put", "a", content)])

    def test_no_line_feed_behind_a_content(self):
        self.assert_bad_body("tx 0 1\nput a 1\nx")
        self.assert_bad_body("tx 0 1\nput a 1\nx ")
        self.assert_bad_body("tx 0 2\nput a 1\nx wipe\n")

    def test_one_sign_changed(self):
        text = transaction_text(12, [edit for edit, _ in EDITS])
        for at in range(len(text)):
            for sign in (" ", "\n", "0", "1", "9", "a", "z", "A", "~"):
                if sign != text[at]:
                    self.assert_bad(text[:at] + sign + text[at + 1:])

    def test_one_sign_left_out(self):
        text = transaction_text(12, [edit for edit, _ in EDITS])
        for at in range(len(text)):
            self.assert_bad(text[:at] + text[at + 1:])

    def test_one_sign_put_in(self):
        text = transaction_text(12, [edit for edit, _ in EDITS])
        for at in range(len(text) + 1):
            for sign in (" ", "\n", "0", "1", "a", "~"):
                self.assert_bad(text[:at] + sign + text[at:])

    def test_any_texts(self):
        for many in (1, 10, 100, 1000):
            for _ in range(20):
                self.assert_bad(some_text(self.random, many))
                self.assert_bad("tx 0 1\n" + some_text(self.random, many))
                self.assert_bad_body("tx 0 1\n" + some_text(self.random, many))
