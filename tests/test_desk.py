"""Promises [50], [51]: the desk."""

import unittest

from mendvault.desk import Desk, replayed
from mendvault.errors import BadLine
from tests.helper import LAYOUTS, SIGNS, fixed_random, raised, some_text
from tests.model_desk import ModelDesk, NoLine
from tests.test_vaults import some_call

# All first words that there are.
WORDS = ("put", "append", "drop", "rename", "copy", "snapshot", "forget", "restore", "wipe", "abandon", "commit", "compact",
         "show", "names", "labels", "lose", "change", "cut", "open", "mend", "stop")


def all_answers(desk, lines):
    return tuple(desk.tell(line) for line in lines)


def told(desk):
    """What a desk tells of what is committed, of what is pending, of a stop, and of what lies outside."""
    probe = ["names", "labels"] + [f"show {name}" for name in ("a", "b", "c", "n0", "n1", "n2", "n3")]
    volumes = [f"change {volume} 0 1" for volume in range(12)]
    ahead = ([], ["commit"], ["open"], ["mend"] + volumes, volumes, ["stop 0", "commit", "open"], ["commit", "open"])
    return tuple(all_answers(replayed(*desk.layout, desk.log()), lines + probe) for lines in ahead)


class Told(Desk):
    """A desk that knows what layout it began with."""

    def __init__(self, k, r):
        Desk.__init__(self, k, r)
        self.layout = k, r


class DeskCase(unittest.TestCase):
    def setUp(self):
        self.random = fixed_random(50)

    def assert_answers(self, desk, *pairs):
        for line, answer in pairs:
            result = desk.tell(line)
            self.assertEqual(result, answer, line)
            self.assertIs(type(result), str)

    def assert_bad(self, desk, line):
        """The line is none, and changes nothing."""
        log, before = desk.log(), told(desk)
        self.assertEqual(raised(desk.tell, line), ("BadLine", 0), line)
        self.assertEqual((desk.log(), told(desk)), (log, before))

    def assert_no(self, desk, word, *lines):
        """Each of the lines is answered so, and changes nothing."""
        for line in lines:
            before = told(desk)
            self.assertEqual(desk.tell(line), f"no {word}", line)
            self.assertEqual(told(desk), before, line)
            self.assertTrue(desk.log().endswith(line + "\n"))


class EditsTest(DeskCase):
    def test_a_day(self):
        self.assert_answers(
            Told(2, 1),
            ("put a one two", "ok"), ("show a", "no NothingThere"), ("names", ""), ("commit", "0"), ("show a", "one two"),
            ("append a  three", "ok"), ("copy a b", "ok"), ("rename a c", "ok"), ("snapshot s", "ok"), ("show b", "no NothingThere"),
            ("commit", "1"), ("show b", "one two three"), ("show a", "no NothingThere"), ("names", "b c"), ("labels", "s"),
            ("drop b", "ok"), ("wipe", "ok"), ("names", "b c"), ("commit", "2"), ("names", ""), ("restore s", "ok"),
            ("forget s", "ok"), ("commit", "3"), ("names", "b c"), ("labels", ""), ("put d x", "ok"), ("abandon", "ok"),
            ("commit", "4"), ("names", "b c"), ("compact 1 0", "1"), ("names", "b c"), ("commit", "1"), ("open", "1 2 0"),
            ("show c", "one two three"), ("mend", "1"), ("compact 6 4", "2"), ("mend", "10"), ("open", "2 1 0"),
        )

    def test_contents(self):
        desk = Told(1, 0)
        for line, content in (("put a x", "x"), ("put a ", ""), ("put a  ", " "), ("put a  x ", " x "), ("put a   x   ", "  x   "),
                              ("put a put b c", "put b c"), ("put a 1 2 3", "1 2 3"), ("put a " + "x" * 400, "x" * 400),
                              ("put a " + SIGNS[1:], SIGNS[1:])):
            self.assert_answers(desk, (line, "ok"), ("commit", str(desk.log().count("commit"))), ("show a", content))
        self.assert_answers(desk, ("put a ", "ok"), ("append a ", "ok"), ("append a  ", "ok"), ("append a x ", "ok"),
                            ("append a  y", "ok"), ("commit", "9"), ("show a", " x  y"))

    def test_names_and_labels(self):
        desk = Told(1, 0)
        for name in ("b", "z9", "a", "abcdefgh"):
            self.assert_answers(desk, (f"put {name} x", "ok"), (f"snapshot {name}", "ok"))
        self.assert_answers(desk, ("names", ""), ("labels", ""), ("commit", "0"), ("names", "a abcdefgh b z9"),
                            ("labels", "a abcdefgh b z9"))

    def test_no_names(self):
        desk = Told(1, 1)
        self.assert_answers(desk, ("put a x", "ok"), ("snapshot s", "ok"), ("commit", "0"), ("put b y", "ok"))
        for name in ("A", "1", "1a", "abcdefghi", "a_", "\u00e9", "a.b", "-", "a\tb"):
            self.assert_no(desk, "BadName", f"put {name} x", f"append {name} x", f"drop {name}", f"rename {name} a",
                           f"rename a {name}", f"copy {name} a", f"copy a {name}", f"snapshot {name}", f"forget {name}",
                           f"restore {name}")
            self.assert_no(desk, "NothingThere", f"show {name}")

    def test_edits_that_are_not_let(self):
        desk = Told(1, 1)
        self.assert_answers(desk, ("put a x", "ok"), ("put c z", "ok"), ("snapshot s", "ok"), ("commit", "0"), ("put b y", "ok"))
        self.assert_no(desk, "NothingThere", "append d x", "drop d", "rename d e", "copy d e", "forget t", "restore t", "show b",
                       "show d", "show s")
        self.assert_no(desk, "BadName", "rename a b", "rename a c")
        self.assert_no(desk, "NoRoom", "put a " + "x" * 401, "append a " + "x" * 400, "compact 1 1")

    def test_room(self):
        desk = Told(6, 0)
        for at in range(24):
            self.assert_answers(desk, (f"put n{at} x", "ok"))
        for at in range(8):
            self.assert_answers(desk, (f"snapshot l{at}", "ok"))
        self.assert_no(desk, "NoRoom", "put m x", "copy n1 m", "snapshot m")
        for _ in range(8):
            self.assert_answers(desk, ("put n0 y", "ok"))
        self.assert_no(desk, "NoRoom", "put n0 z", "wipe")
        self.assert_answers(desk, ("commit", "0"), ("show n0", "y"))

    def test_pending_edits_are_there_till_a_commit(self):
        desk = Told(1, 1)
        self.assert_answers(desk, ("put a x", "ok"), ("names", ""), ("mend", "0"), ("open", "no Beyond"), ("lose 0", "no BadValue"),
                            ("commit", "0"), ("names", "a"), ("put b y", "ok"), ("mend", "2"), ("lose 0", "ok"), ("commit", "1"),
                            ("names", "a b"))

    def test_layouts(self):
        for k, r in LAYOUTS:
            self.assert_answers(Told(k, r), ("change 0 0 1", "ok"), (f"lose {k + r - 1}", "ok"), (f"lose {k + r}", "no BadValue"),
                                ("commit", "0"), ("mend", str(k + r)))
        for k, r, at in ((0, 0, 0), (7, 0, 0), (-1, 5, 0), (1, -1, 1), (6, 5, 1)):
            self.assertEqual(raised(Desk, k, r), ("BadValue", at))
            self.assertEqual(raised(replayed, k, r, "no line\n"), ("BadValue", at))
        self.assertEqual(Desk(k=1, r=0).tell(line="commit"), "0")


class OutsideTest(DeskCase):
    def desk(self, k=2, r=1):
        desk = Told(k, r)
        self.assert_answers(desk, ("put a one", "ok"), ("commit", "0"), ("put b two", "ok"), ("commit", "1"))
        return desk

    def test_open_takes_what_lies_outside(self):
        self.assert_answers(self.desk(), ("open", "0 2 0"), ("lose 0", "ok"), ("open", "0 2 2"), ("open", "0 2 0"),
                            ("lose 1", "ok"), ("lose 2", "ok"), ("names", "a b"), ("open", "no Beyond"), ("names", "a b"))

    def test_open_reads_what_is_left(self):
        # A transaction has one stripe; the first block of volume 0 and of volume 1 are lost with it.
        self.assert_answers(self.desk(), ("cut 0 48 96", "ok"), ("cut 1 48 96", "ok"), ("put c three", "ok"), ("open", "0 1 0"),
                            ("names", "a"), ("put d four", "ok"), ("commit", "1"), ("names", "a d"), ("open", "0 2 0"))

    def test_pending_edits_are_lost_at_open(self):
        self.assert_answers(self.desk(), ("put c three", "ok"), ("open", "0 2 0"), ("commit", "2"), ("names", "a b"))

    def test_pending_edits_stay_where_nothing_is_read(self):
        self.assert_answers(Told(2, 1), ("put c three", "ok"), ("open", "no Beyond"), ("commit", "0"), ("names", "c"))

    def test_mend_leaves_the_vault(self):
        self.assert_answers(self.desk(), ("cut 0 48 96", "ok"), ("cut 1 48 96", "ok"), ("put c three", "ok"), ("mend", "3"),
                            ("names", "a b"), ("commit", "2"), ("names", "a b c"),
                            # What was mended lacks a stripe, so that the one behind it is not read.
                            ("open", "0 1 0"), ("names", "a"))

    def test_where_nothing_is_read(self):
        desk = self.desk()
        self.assert_answers(desk, ("lose 0", "ok"), ("lose 2", "ok"), ("open", "no Beyond"), ("lose 2", "ok"), ("mend", "0"))
        self.assert_no(desk, "BadValue", "lose 0", "cut 1 0 0", "change 0 0 1")
        self.assert_no(desk, "Beyond", "open")
        self.assert_answers(desk, ("mend", "0"), ("names", "a b"), ("put c x", "ok"), ("commit", "2"), ("lose 2", "ok"),
                            ("lose 3", "no BadValue"), ("open", "no Beyond"), ("names", "a b c"))

    def test_harms(self):
        desk = self.desk(1, 2)
        self.assert_answers(desk, ("change 0 20 5 6 7 8", "ok"), ("open", "0 2 1"), ("change 1 0 0", "ok"), ("change 2 50 128 0", "ok"),
                            ("open", "0 2 2"), ("cut 0 47 48", "ok"), ("open", "0 2 1"), ("cut 0 5 5", "ok"), ("open", "0 2 0"),
                            # Each transaction has two stripes, so that a volume has 192 integers.
                            ("change 0 191 1 1 1 1", "ok"), ("change 0 192 1", "ok"), ("open", "0 2 1"), ("change 0 95 1 1", "ok"),
                            ("open", "0 2 2"), ("change 0 999999999999999999 1", "ok"), ("open", "0 2 0"),
                            ("cut 0 191 999999999999999999", "ok"), ("open", "0 2 1"),
                            ("cut 0 999999999999999998 999999999999999999", "ok"), ("open", "0 2 0"))

    def test_no_harms(self):
        desk = self.desk()
        self.assert_no(desk, "BadValue", "lose 3", "lose 999999999999999999", "change 3 0 1", "change 0 0 129",
                       "change 0 0 1 2 3 4 5", "change 0 0 1 2 3 999999999999999999", "change 0 0 1 2 3 4 5 6 7 8", "cut 3 0 0",
                       "cut 0 2 1", "cut 0 999999999999999999 0")
        self.assert_answers(desk, ("open", "0 2 0"))

    def test_harms_beyond_the_layout(self):
        desk = self.desk(2, 2)
        self.assert_answers(desk, ("compact 1 0", "1"), ("lose 3", "ok"), ("change 3 0 1", "ok"), ("cut 2 0 9", "ok"),
                            ("lose 4", "no BadValue"), ("mend", "1"), ("lose 1", "no BadValue"), ("open", "1 1 0"),
                            ("compact 1 1", "2"), ("lose 1", "ok"), ("lose 2", "no BadValue"), ("open", "2 1 2"))

    def test_a_cut_takes_the_first_integers_whatever_they_are(self):
        # In place of the elder epoch's blocks, which are lost outside, the new ones are cut away: two of two stripes.
        desk = self.desk(1, 2)
        self.assert_answers(desk, ("lose 0", "ok"), ("compact 1 1", "1"), ("open", "1 1 2"), ("names", "a b"))
        desk = self.desk(1, 0)
        self.assert_answers(desk, ("lose 0", "ok"), ("compact 1 0", "1"), ("open", "no Beyond"), ("change 0 0 1", "ok"))
        # Of seven blocks one is lost ahead of the cut of seven: so the first of the new ones goes, too.
        desk = self.desk(1, 0)
        self.assert_answers(desk, ("put c " + "x" * 60, "ok"), ("commit", "2"), ("cut 0 0 48", "ok"), ("compact 1 1", "1"))
        self.assert_answers(desk, ("open", "1 1 1"))

    def test_a_block_makes_volumes(self):
        desk = self.desk()
        self.assert_answers(desk, ("lose 0", "ok"), ("lose 1", "ok"), ("mend", "0"), ("stop 1", "ok"), ("commit", "2"),
                            ("lose 0", "ok"), ("lose 1", "no BadValue"), ("mend", "0"), ("stop 0", "ok"), ("commit", "3"),
                            ("lose 0", "no BadValue"), ("stop 97", "ok"), ("commit", "4"), ("lose 2", "ok"), ("lose 3", "no BadValue"))

    def test_a_cut_makes_none(self):
        desk = self.desk(1, 0)
        self.assert_answers(desk, ("compact 2 2", "1"), ("lose 0", "ok"), ("lose 1", "ok"), ("lose 2", "ok"), ("mend", "0"),
                            ("compact 1 0", "2"), ("lose 0", "ok"), ("lose 1", "no BadValue"))


class StopTest(DeskCase):
    def desk(self):
        desk = Told(2, 1)
        self.assert_answers(desk, ("put a one", "ok"), ("commit", "0"), ("put b two", "ok"))
        return desk

    def test_each_place(self):
        # The three blocks of a stripe: with two of them it is read.
        for many in list(range(145)) + [145, 1000, 999999999999999999]:
            desk = self.desk()
            self.assert_answers(desk, (f"stop {many}", "ok"), ("commit", "1"), ("names", "a b"))
            whole = min(many // 48, 3)
            answer = f"0 2 {3 - whole}" if whole >= 2 else "0 1 0"
            self.assert_answers(desk, ("open", answer), ("names", "a b" if whole >= 2 else "a"))

    def test_it_is_used_up_by_what_writes(self):
        for many in (0, 50, 144, 500):
            desk = self.desk()
            self.assert_answers(desk, (f"stop {many}", "ok"), ("commit", "1"), ("open", f"0 {2 if many > 95 else 1} 0"),
                                ("put c x", "ok"), ("commit", "2" if many > 95 else "1"), ("open", f"0 {3 if many > 95 else 2} 0"))

    def test_it_is_not_used_up_by_what_does_not_write(self):
        desk = self.desk()
        self.assert_answers(desk, ("stop 0", "ok"), ("compact 1 1", "no NoRoom"), ("compact 9 1", "no BadValue"), ("mend", "3"),
                            ("lose 0", "ok"), ("open", "0 1 1"), ("abandon", "ok"), ("put c x", "ok"), ("names", "a"),
                            ("commit", "1"), ("names", "a c"), ("open", "0 1 0"), ("names", "a"))

    def test_a_commit_without_edits_writes(self):
        self.assert_answers(self.desk(), ("abandon", "ok"), ("stop 0", "ok"), ("commit", "1"), ("open", "0 1 0"), ("commit", "1"),
                            ("open", "0 2 0"))

    def test_the_last_one_holds(self):
        for one, other, answer in ((0, 144, "0 2 0"), (144, 0, "0 1 0"), (0, 96, "0 2 1"), (0, 0, "0 1 0"), (500, 95, "0 1 0")):
            self.assert_answers(self.desk(), (f"stop {one}", "ok"), (f"stop {other}", "ok"), ("commit", "1"), ("open", answer))

    def test_what_comes_behind_a_stop(self):
        # The torn stripe is lacking outside, although the next one is written there.
        self.assert_answers(self.desk(), ("stop 60", "ok"), ("commit", "1"), ("put c x", "ok"), ("commit", "2"), ("names", "a b c"),
                            ("open", "0 1 0"), ("names", "a"))

    def test_ahead_of_a_compaction(self):
        # The base transaction has two stripes of one block each; three cuts stand behind them.
        for many, answer in ((0, "0 2 0"), (47, "0 2 0"), (48, "0 2 0"), (95, "0 2 0"), (96, "1 1 0"), (97, "1 1 0"),
                             (98, "1 1 0"), (99, "1 1 0"), (500, "1 1 0")):
            desk = self.desk()
            self.assert_answers(desk, ("commit", "1"), (f"stop {many}", "ok"), ("compact 1 0", "1"), ("names", "a b"))
            self.assert_answers(desk, ("open", answer), ("names", "a b"))

    def test_the_cuts_of_a_compaction(self):
        # Each counts one. Without the new blocks it is told which volumes of the elder epoch are there still.
        for done, answer in ((0, "0 2 0"), (1, "0 2 2"), (2, "no Beyond"), (3, "no Beyond")):
            desk = self.desk()
            self.assert_answers(desk, ("commit", "1"), (f"stop {96 + done}", "ok"), ("compact 1 0", "1"))
            begin = 96 if done == 0 else 0
            self.assert_answers(desk, (f"cut 0 {begin} 999", "ok"), ("open", answer))


class LinesTest(DeskCase):
    def desk(self):
        desk = Told(2, 1)
        self.assert_answers(desk, ("put a x", "ok"), ("snapshot s", "ok"), ("commit", "0"), ("put b y", "ok"), ("stop 50", "ok"))
        return desk

    def test_lines_of_no_kind(self):
        desk = self.desk()
        for line in ("", " ", "  ", "hello", "Put a x", "PUT a x", "puts a x", "pu a x", " put a x", "wipes", "Wipe", "0", "no BadName",
                     "ok", "# put a x", "tell", "log", "save", "-"):
            self.assert_bad(desk, line)

    def test_words_too_few(self):
        desk = self.desk()
        for line in ("put", "put a", "append", "append a", "drop", "rename", "rename a", "copy", "copy a", "snapshot", "forget",
                     "restore", "compact", "compact 1", "show", "lose", "change", "change 0", "change 0 0", "cut", "cut 0", "cut 0 0",
                     "stop"):
            self.assert_bad(desk, line)

    def test_words_too_many(self):
        desk = self.desk()
        for line in ("drop a b", "rename a b c", "copy a b c", "snapshot a b", "forget s s", "restore s s", "wipe a", "abandon a",
                     "commit 1", "compact 1 1 1", "show a b", "names a", "labels s", "lose 0 0", "cut 0 0 0 0", "open 1", "mend 1",
                     "stop 1 1"):
            self.assert_bad(desk, line)

    def test_empty_words(self):
        desk = self.desk()
        for word in WORDS:
            if word not in ("put", "append"):
                self.assert_bad(desk, word + " ")
        for line in ("put ", "put  ", "put  x", "append ", "append  a", "drop  a", "drop a ", "rename a  b", "rename  a b",
                     "rename a b ", "rename a ", "copy a ", "copy  a", "show  a", "show a ", "compact  1 1", "compact 1  1",
                     "compact 1 1 ", "compact 1 ", "lose  0", "lose 0 ", "change 0 0 ", "change 0 0 1 ", "change 0 0  1",
                     "change 0 0 1  2", "cut 0 0 0 ", "cut 0  0", "stop  0", "stop 0 ", "restore s ", "commit  ", " commit"):
            self.assert_bad(desk, line)

    def test_words_that_are_no_numbers(self):
        desk = self.desk()
        for word in ("x", "-1", "+1", "00", "01", "007", "1.0", "1e3", "0x1", "1_0", "\u0661", "\u00b2", "1000000000000000000",
                     "1" * 19, "0" * 18, "9" * 5000, "a", "1\t"):
            for line in ("compact {} 1", "compact 1 {}", "lose {}", "change {} 0 1", "change 0 {} 1", "change 0 0 {}",
                         "change 0 0 1 {}", "change 0 0 1 1 1 1 {}", "cut {} 0 0", "cut 0 {} 0", "cut 0 0 {}", "stop {}"):
                self.assertEqual(raised(desk.tell, line.format(word)), ("BadLine", 0))
            self.assert_bad(desk, f"stop {word}")

    def test_numbers_of_18_figures(self):
        desk = self.desk()
        for number in ("9" * 18, "1" + "0" * 17):
            self.assert_no(desk, "BadValue", f"compact {number} 1", f"compact 1 {number}", f"lose {number}", f"change 0 0 {number}",
                           f"cut 0 {number} 0", f"change {number} 0 1")
            self.assert_answers(desk, (f"change 0 {number} 1", "ok"), (f"cut 0 0 {number}", "ok"), (f"stop {number}", "ok"))

    def test_numbers_out_of_their_range(self):
        desk = self.desk()
        self.assert_answers(desk, ("abandon", "ok"))
        self.assert_no(desk, "BadValue", "compact 0 0", "compact 7 0", "compact 1 5", "compact 0 5")
        self.assert_answers(desk, ("put b y", "ok"))
        self.assert_no(desk, "BadValue", "compact 0 0", "compact 1 5")
        self.assert_no(desk, "NoRoom", "compact 1 1")

    def test_line_feeds(self):
        desk = self.desk()
        for line in ("put a x\n", "put a x\ny", "commit\n", "\ncommit", "wipe\nwipe", "\n", "show a\n", "lose 0\n", "put\na x"):
            self.assert_bad(desk, line)


class LogTest(DeskCase):
    def test_what_was_answered(self):
        desk = Told(2, 1)
        self.assertEqual(desk.log(), "")
        lines = []
        for line in ("put a  x ", "put A x", "nothing", "commit", "open", "lose 9", "", "stop 5", "show a", "put b", "compact 1 1"):
            try:
                desk.tell(line)
                lines.append(line)
            except BadLine as error:
                self.assertEqual(error.at, 0)
            self.assertEqual(desk.log(), "".join(each + "\n" for each in lines))
        self.assertEqual(len(lines), 8)

    def test_it_makes_another_desk(self):
        desk = Told(2, 1)
        all_answers(desk, ("put a x", "commit", "put b ", "stop 70", "put A x", "commit", "put c  z ", "lose 0"))
        other = replayed(2, 1, desk.log())
        self.assertIs(type(other), Desk)
        self.assertEqual(other.log(), desk.log())
        for line in ("names", "show b", "commit", "show c", "open", "names", "mend", "log"):
            self.assertEqual(self.outcome(other, line), self.outcome(desk, line))
        self.assertEqual(other.log(), desk.log())

    @staticmethod
    def outcome(desk, line):
        try:
            return desk.tell(line)
        except BadLine as error:
            return error.at

    def test_no_lines(self):
        desk = replayed(k=3, r=1, log="")
        self.assertEqual((desk.log(), desk.tell("mend"), desk.tell("lose 3")), ("", "0", "no BadValue"))

    def test_a_line_that_raises(self):
        for log, at in (("\n", 0), ("hello\n", 0), ("wipe\nput a\nput b\n", 1), ("wipe\n\nwipe\n", 1), ("wipe\nwipe\n\n", 2),
                        ("put A x\nlose 9\nopen\nstop 01\nstop x\n", 3), ("wipe\n wipe", 1), ("wipe \n", 0)):
            self.assertEqual(raised(replayed, 1, 0, log), ("BadLine", at))
        self.assertEqual(raised(replayed, 1, 0, "wipe\n" * 100 + "wipes\n"), ("BadLine", 100))

    def test_answers_that_are_no_do_not_raise(self):
        log = "put A x\nlose 9\nopen\ncompact 9 9\ndrop a\nshow A\n"
        self.assertEqual(replayed(1, 0, log).log(), log)


class ModelTest(DeskCase):
    """Any lines are answered as the model answers them."""

    def some_line(self, random_source):
        kind = random_source.random()
        if kind < 0.55:
            word, arguments = some_call(random_source)
            return " ".join([word, *arguments]).replace("\n", "~")
        if kind < 0.8:
            return random_source.choice(("commit", "commit", "open", "mend", "names", "labels", "show n0", "show n1", "abandon"))
        volume, at = random_source.randrange(4), random_source.choice((0, 3, 47, 48, 60, 96, 200, 500))
        return random_source.choice((
            f"stop {random_source.choice((0, 1, 47, 48, 49, 96, 150, 500, 5000))}", f"lose {volume}", f"cut {volume} {at} {at + 48}",
            f"cut {volume} {at} {random_source.choice((0, 48, 96, 300))}", f"change {volume} {at} 5 128", f"change {volume} {at} 129",
            f"compact {random_source.randrange(4)} {random_source.randrange(3)}", f"commit{random_source.choice(' x')}",
            f"stop 0{at}", some_text(random_source, 5).replace("\n", " "),
        ))

    def test_any_lines(self):
        answers, bad = set(), 0
        for _ in range(60):
            k, r = self.random.choice(((1, 0), (1, 1), (2, 1), (1, 2), (3, 1), (2, 2)))
            desk, model = Desk(k, r), ModelDesk(k, r)
            for _ in range(80):
                line = self.some_line(self.random)
                try:
                    expected = model.tell(line)
                except NoLine:
                    self.assertEqual(raised(desk.tell, line), ("BadLine", 0), line)
                    bad += 1
                    continue
                answer = desk.tell(line)
                self.assertEqual(answer, expected, line)
                answers.add((line.split(" ")[0], answer[:4]))
            self.assertEqual(desk.log(), "".join(line + "\n" for line in model.lines))
            self.assertEqual(replayed(k, r, desk.log()).tell("names"), model.tell("names"))
        self.assertGreater(len(answers), 50)
        self.assertGreater(bad, 20)
