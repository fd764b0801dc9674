"""[15] a Desk, its rows and their answers; [16] in what order what is refused."""

import random
import re
import unittest

from lackstretch.desk import Desk
from lackstretch.errors import NoName, NoNumber, NoRow, NoStretch, NoText, TooMany
from tests.by_hand import KINDS, WIDE, Below, goes_on, good_numbers, how_many_long, rules
from tests.test_texts import nearly, number_in, rule_in
from tests.things import answer, anything, bad_texts, calls_of, figures_in, lacks, rule_by, write

BY_NUMBER = ["good", "below", "next", "last", "sum"]
BY_STRETCH = ["come", "go"]
ALONE = ["drop", "endless", "show"]
# One of each row, of rules that ROWS itself lays.
ROWS = ["rule a 10 13 7", "rule ab 2", "come a 2", "go a 7", "good a 5", "below a 100", "nth a 12", "next a 70",
        "last a 70", "sum a 100", "long a 2", "endless a", "show a", "drop ab"]
FORMS = [r"rule ([a-z]{1,8}) (.*)", r"(?:come|go|good|below|next|last|sum) ([a-z]{1,8}) ([0-9a-f]{1,30})",
         r"nth ([a-z]{1,8}) (0|[1-9][0-9]{0,19})", r"long ([a-z]{1,8}) (0|[1-9][0-9]?)",
         r"(?:drop|endless|show) ([a-z]{1,8})()"]


def write_rule(rule):
    return " ".join([str(rule[0])] + bad_texts(rule))


def desk_of(**rules_told):
    desk = Desk()
    for name, rule in rules_told.items():
        desk.say(f"rule {name} {write_rule(rule)}")
    return desk


def state(desk):
    """All that stands at a desk."""
    return [(name, desk.say(f"show {name}"), desk.say(f"below {name} 1000")) for name in desk.names()]


class ByHand:
    """A desk by texts: it tells an answer's text, or the class of a refusal."""

    def __init__(self):
        self.rules = {}

    def say(self, row):
        fits = [found for found in [re.fullmatch(form, row, re.DOTALL) for form in FORMS] if found]
        if not fits:
            return NoRow
        verb = row.split(" ")[0]
        name, word = fits[0].groups()
        if verb == "rule":
            if rule_in(word) is None:
                return NoText
            self.rules[name] = rule_in(word)
            return "ok"
        if name not in self.rules:
            return NoName
        if verb == "drop":
            self.rules.pop(name)
            return "ok"
        if verb in BY_STRETCH:
            return self.change(verb, name, word)
        return self.ask(verb, self.rules[name], word)

    def change(self, verb, name, word):
        base, bad = self.rules[name]
        stretch = figures_in(word)
        if len(stretch) > 4 or max(stretch) >= base:
            return NoStretch
        if verb == "come" and len(bad) == 4:
            return TooMany
        if (stretch in bad) == (verb == "come"):
            return NoStretch
        told = bad + [stretch] if verb == "come" else [each for each in bad if each != stretch]
        self.rules[name] = (base, sorted(told))
        return "ok"

    def ask(self, verb, rule, word):
        """Only of numbers so small that a few thousand numbers tell all."""
        base = rule[0]
        n = number_in(base, word) if verb in BY_NUMBER else None
        if verb in BY_NUMBER and n is None:
            return NoText
        good = good_numbers(rule, 3000)
        below = [each for each in good if n is not None and each < n]
        if verb == "show":
            return write_rule(rule)
        if verb == "good":
            return "yes" if lacks(rule, word) else "no"
        if verb == "below":
            return str(len(below))
        if verb == "sum":
            return str(sum(below))
        if verb == "last":
            return write(base, below[-1]) if below else "none"
        if verb == "next":
            return write(base, good[len(below)]) if len(below) < len(good) else "none"
        if verb == "nth":
            return write(base, good[int(word)]) if int(word) < len(good) else "none"
        if verb == "long":
            return str(how_many_long(rule, 60)[int(word) - 1]) if 1 <= int(word) <= 60 else NoNumber
        if goes_on(rule):
            return "yes"
        return write(base, good[-1]) if good else "none"


class Plain(unittest.TestCase):
    def test_each_row(self):
        desk = Desk()
        for row, told in [
            ("rule a 10 13 7", "ok"), ("show a", "10 13 7"), ("good a 31", "yes"), ("good a 130", "no"),
            ("good a 0", "yes"), ("below a 100", "80"), ("below a 0", "0"), ("nth a 12", "14"), ("nth a 0", "0"),
            ("next a 130", "140"), ("next a 0", "0"), ("last a 130", "129"), ("last a 0", "none"), ("sum a 14", "71"),
            ("sum a 0", "0"), ("long a 1", "9"), ("long a 2", "71"), ("endless a", "yes"), ("come a 2", "ok"),
            ("show a", "10 13 2 7"), ("go a 13", "ok"), ("show a", "10 2 7"), ("below a 100", "64"), ("drop a", "ok"),
        ]:
            self.assertEqual(desk.say(row), told, row)
        self.assertEqual(desk.names(), [])

    def test_numbers_in_the_rules_base_and_how_many_in_ten(self):
        desk = desk_of(hex=rule_by(16, "f"), two=rule_by(2, "11"))
        for row, told in [
            ("good hex ff", "no"), ("good hex ee", "yes"), ("below hex 100", "225"), ("nth hex 225", "100"),
            ("nth hex 224", "ee"), ("next hex ff", "100"), ("last hex 100", "ee"), ("sum hex 10", "105"),
            ("long hex 2", "210"), ("below two 10000", "8"), ("nth two 8", "10000"), ("next two 1011", "10000"),
            ("last two 10000", "1010"), ("sum two 1001", "20"), ("long two 10", "55"), ("good two 101", "yes"),
            ("show hex", "16 f"), ("show two", "2 11"), ("endless two", "yes"),
        ]:
            self.assertEqual(desk.say(row), told, row)

    def test_ended_ones(self):
        desk = desk_of(none=(2, [[0], [1]]), zero=(2, [[1]]), few=rule_by(2, "0", "111"),
                       hexa=rule_by(3, "0", "11", "12", "2"))
        for row, told in [
            ("endless none", "none"), ("endless zero", "0"), ("endless few", "11"), ("endless hexa", "1"),
            ("nth none 0", "none"), ("next none 0", "none"), ("last none 111", "none"), ("below none 111", "0"),
            ("sum none 111", "0"), ("long none 1", "0"), ("long zero 1", "1"), ("long zero 2", "0"),
            ("nth zero 0", "0"), ("nth zero 1", "none"), ("next zero 1", "none"), ("next few 100", "none"),
            ("last few 100", "11"), ("nth few 2", "none"), ("nth few 1", "11"),
            ("nth few 99999999999999999999", "none"), ("good none 0", "no"),
        ]:
            self.assertEqual(desk.say(row), told, row)

    def test_a_rule_in_the_place_of_another(self):
        desk = Desk()
        for text in ["10 13 7", "2", "16 f", "2 0 1", "10"]:
            self.assertEqual(desk.say(f"rule a {text}"), "ok")
            self.assertEqual(desk.say("show a"), text)
            self.assertEqual(desk.names(), ["a"])

    def test_names_in_the_order_of_letters(self):
        desk = Desk()
        self.assertEqual(desk.names(), [])
        told = ["b", "a", "abcdefgh", "zz", "z", "ab", "rule", "drop", "come", "go", "zzzzzzzz", "aaaaaaaa", "ok",
                "none", "yes", "names", "say", "x", "y", "m"]
        for name in told:
            self.assertEqual(desk.say(f"rule {name} 10"), "ok")
        self.assertEqual(desk.names(), sorted(told))
        desk.say("drop m")
        desk.say("drop a")
        self.assertEqual(desk.names(), sorted(set(told) - {"m", "a"}))
        self.assertEqual(desk.say("drop drop"), "ok")
        self.assertRaises(NoName, desk.say, "show drop")
        self.assertEqual(desk.say("show rule"), "10")

    def test_told_kinds(self):
        desk = Desk()
        for row in ROWS:
            self.assertIs(type(desk.say(row)), str)
        self.assertIs(type(desk.names()), list)


class Great(unittest.TestCase):
    def test_words_of_thirty_signs(self):
        source = random.Random(25)
        for rule in KINDS[::2] + rules(12, seed=26)[-12:]:
            desk = desk_of(r=rule)
            base = rule[0]
            for size in [15, 29, 30]:
                word = write(base, source.randrange(base ** (size - 1), base ** size))
                below = Below(rule, int(word, base))
                self.assertEqual(desk.say(f"below r {word}"), str(below.many))
                self.assertEqual(desk.say(f"sum r {word}"), str(below.total))
                self.assertEqual(desk.say(f"good r {word}"), "yes" if lacks(rule, word) else "no")
                told = desk.say(f"next r {word}")
                if told == "none":
                    self.assertFalse(goes_on(rule))
                else:
                    self.assertTrue(lacks(rule, told) and int(told, base) >= int(word, base))
                    self.assertEqual(Below(rule, int(told, base)).many, below.many)
                told = desk.say(f"last r {word}")
                if told == "none":
                    self.assertEqual(below.many, 0)
                else:
                    self.assertTrue(lacks(rule, told) and int(told, base) < int(word, base))
                    self.assertEqual(Below(rule, int(told, base)).many, below.many - 1)

    def test_places_of_twenty_figures(self):
        for rule in KINDS[::2] + [WIDE]:
            desk = desk_of(r=rule)
            for k in [10 ** 19, 10 ** 20 - 1, 12345678901234567890, 10 ** 10]:
                told = answer(desk.say, f"nth r {k}")
                if rule != WIDE and Below(rule, rule[0] ** 60).many <= k:
                    self.assertEqual(told, TooMany if goes_on(rule) else (str, "none"), (rule, k))
                elif rule != WIDE:
                    self.assertEqual(Below(rule, int(told[1], rule[0])).many, k, (rule, k))
                    self.assertTrue(lacks(rule, told[1]))
                else:
                    self.assertEqual(desk.say(f"below r {told[1]}"), str(k))

    def test_sixty_figures_and_one_more(self):
        desk = desk_of(ones=(2, [[0]]))
        self.assertEqual(desk.say("nth ones 59"), "1" * 60)
        self.assertRaises(TooMany, desk.say, "nth ones 60")
        self.assertRaises(TooMany, desk.say, "nth ones 99999999999999999999")

    def test_lengths(self):
        for rule in KINDS[::3]:
            desk = desk_of(r=rule)
            self.assertEqual([desk.say(f"long r {m}") for m in range(1, 61)], [str(m) for m in how_many_long(rule, 60)])
            for m in [0] + list(range(61, 100)):
                self.assertRaises(NoNumber, desk.say, f"long r {m}")

    def test_known_ones(self):
        desk = desk_of(all=(16, []), seven=(10, [[7]]))
        self.assertEqual(desk.say("below all " + "f" * 30), str(16 ** 30 - 1))
        self.assertEqual(desk.say("sum all " + "f" * 30), str((16 ** 30 - 1) * (16 ** 30 - 2) // 2))
        self.assertEqual(desk.say("next all " + "f" * 30), "f" * 30)
        self.assertEqual(desk.say("last all " + "f" * 30), "f" * 29 + "e")
        self.assertEqual(desk.say("next seven 7" + "0" * 29), "8" + "0" * 29)
        self.assertEqual(desk.say("last seven 8" + "0" * 29), "6" + "9" * 29)
        self.assertEqual(desk.say("next seven " + "9" * 30), "9" * 30)
        self.assertEqual(desk.say("long seven 60"), str(8 * 9 ** 59))
        self.assertEqual(desk.say("long all 60"), str(15 * 16 ** 59))

    def test_good_numbers_are_not_gone_through(self):
        for rule in [(2, []), rule_by(2, "111"), (16, []), WIDE]:
            desk = desk_of(r=rule)
            word = "1" + "0" * 29
            for row in [f"below r {word}", f"sum r {word}", f"next r {word}", f"last r {word}", "nth r 999999999999",
                        "long r 60", "endless r", "come r 11", "go r 0123"]:
                told = calls_of(answer, desk.say, row)
                self.assertLess(told, 100000, (rule, row))


class NoRows(unittest.TestCase):
    def setUp(self):
        self.desk = desk_of(a=rule_by(10, "13", "7"), ab=(2, []), hex=rule_by(16, "f"),
                            four=rule_by(10, "1", "2", "3", "4"))
        self.before = state(self.desk)

    def tearDown(self):
        self.assertEqual(state(self.desk), self.before)

    def refuse(self, kind, *rows):
        for row in rows:
            with self.subTest(row=row):
                self.assertRaises(kind, self.desk.say, row)

    def test_of_anything(self):
        for thing in anything() + [["show a"], ("show a",), {"show": "a"}, b"show a", ["show", "a"], ("show", "a")]:
            with self.subTest(thing=type(thing)):
                self.assertRaises(NoRow, self.desk.say, thing)

    def test_other_words(self):
        self.refuse(NoRow, "", " ", "  ", "a", "hello", "names", "names a", "say a", "rules a 10", "Rule a 10",
                    "SHOW a", "Show a", "shows a", "sho a", "list a", "get a 5", "count a 5", "place a 5", "greatest a",
                    "ok a", "figures a 5", "bad a 5", "\tshow a", "\nshow a", "show", "drop", "endless", "rule", "come",
                    "go", "good", "below", "nth", "long", "5 a", "a a", "a show", "a good 5")

    def test_names(self):
        for row in ROWS:
            verb, _, behind = row.partition(" ")
            rest = behind.partition(" ")[1] + behind.partition(" ")[2]
            self.refuse(NoRow, *[verb + " " + name + rest for name in [
                "", "A", "aB", "abcdefghi", "abcdefghijklm", "a1", "1", "0", "a_b", "a-b", "a.", "_", "-", "a\n", "\na",
                "a\t", "~", "a,b", "[a]", "a" * 60]])

    def test_blanks(self):
        for row in ROWS:
            self.refuse(NoRow, " " + row, row.replace(" ", "  ", 1), row.replace(" ", "\t", 1),
                        row.replace(" ", "\n", 1), row.replace(" ", "", 1), row.replace(" ", "_", 1), "\n" + row)
            if not row.startswith("rule"):
                self.refuse(NoRow, row + " ", row + "\n", row + "\t", row + " 1", row + " a", row + "  ",
                            row.replace(" ", "  "))
                head, _, tail = row.rpartition(" ")
                self.refuse(NoRow, head + "  " + tail, head + "\t" + tail)

    def test_how_many_words(self):
        for verb in BY_NUMBER + BY_STRETCH + ["nth", "long"]:
            self.refuse(NoRow, f"{verb} a", f"{verb} a ", f"{verb} a 5 5", f"{verb} a 5 ", f"{verb}  5", f"{verb} 5",
                        f"{verb}")
        for verb in ALONE:
            self.refuse(NoRow, f"{verb} a 5", f"{verb} a ", f"{verb} a b", f"{verb} ", f"{verb}")

    def test_rule_rows(self):
        self.refuse(NoRow, "rule", "rule ", "rule a", "rule abc", "rule  ", "rule  10", "rule  a 10", "rule 10",
                    "rule 10 13", "rule A 10", "rule abcdefghi 10", "rule a\t10", "rule a\n10", "rule\ta 10")
        # Behind the blank behind the name all is TEXT, also nothing.
        self.refuse(NoText, "rule a ", "rule new ", "rule a  ", "rule a  10", "rule a 10 ", "rule a 10\n",
                    "rule a \t10", "rule a x", "rule a a", "rule a 10 7 13", "rule a 10  13", "rule a 17", "rule a 1",
                    "rule a 010", "rule a 10 A", "rule a rule a 10")

    def test_words_of_s_and_n(self):
        for verb in BY_NUMBER + BY_STRETCH:
            self.refuse(NoRow, *[f"{verb} a {word}" for word in [
                "", "g", "A", "F", "1A", "-1", "+1", "1.", "x", "1" * 31, "0" * 31, "f" * 31, "1" * 100, "none", "1_1",
                "1,1", "~", "1\n", "\n1", "1\t", "0x1", "[1]", "13-"]])

    def test_words_of_k_and_m(self):
        self.refuse(NoRow, *[f"nth a {word}" for word in [
            "", "00", "01", "007", "a", "1a", "f", "-1", "+1", "1.", "1" * 21, "0" * 20, "1" * 30, "1_1", "1\n", "A",
            "none"]])
        self.refuse(NoRow, *[f"long a {word}" for word in [
            "", "00", "01", "09", "a", "1a", "f", "-1", "+1", "1.", "100", "060", "111", "1_", "1\n", "A", "none"]])
        self.refuse(NoNumber, "long a 0", "long a 61", "long a 99")

    def test_a_sign_left_out_put_in_or_exchanged(self):
        desk = Desk()
        hand = ByHand()
        for row in ["rule a 10 13 7", "come a 2", "go a 2", "good a 5", "nth a 12", "long a 12", "endless a", "show a"]:
            for near in nearly(row):
                for each in [near, "rule a 10 13 7"]:
                    told = answer(desk.say, each)
                    self.assertEqual(told[1] if isinstance(told, tuple) else told, hand.say(each), each)


class Order(unittest.TestCase):
    """Where two refusals are due at once, the one that is told ahead is told."""

    setUp, tearDown, refuse = NoRows.setUp, NoRows.tearDown, NoRows.refuse

    def test_no_row_ahead_of_no_name(self):
        self.refuse(NoRow, "good nobody g", "good nobody", "come nobody ", "nth nobody 01", "long nobody 100",
                    "show nobody 1", "drop nobody ", "below nobody " + "1" * 31, "endless Nobody", "go nobody -")

    def test_no_row_ahead_of_no_text(self):
        self.refuse(NoRow, "rule A x", "rule abcdefghi x", "rule a", "good a 0g", "below a 00 ", "sum hex G")

    def test_no_row_ahead_of_no_stretch_and_of_the_stages(self):
        self.refuse(NoRow, "come a g", "come four g", "come a 12345 ", "go a A", "long a 061", "nth ab 0" + "9" * 19)

    def test_no_name(self):
        self.refuse(NoName, "good nobody 5", "below nobody 0", "nth nobody 0", "next nobody 5", "last nobody 5",
                    "sum nobody 5", "long nobody 5", "endless nobody", "show nobody", "drop nobody", "come nobody 5",
                    "go nobody 5", "show b", "show aa", "show abc", "show fou", "show he")

    def test_no_name_ahead_of_all_behind_it(self):
        self.refuse(NoName, "come nobody 12345", "go nobody fffff", "good nobody 00", "below nobody 0001",
                    "sum nobody 01", "next nobody 00", "last nobody 00", "long nobody 0", "long nobody 61",
                    "nth nobody " + "9" * 20)

    def test_no_text_of_a_text_by_a_name_that_is_none_too(self):
        self.refuse(NoText, "rule nobody x", "rule nobody ", "rule a x", "rule a 10 1 2 3 4 5")

    def test_no_stretch_ahead_of_too_many(self):
        self.refuse(NoStretch, "come four a", "come four 12345", "come four 00000", "come four 1f",
                    "come four " + "1" * 30)
        self.refuse(TooMany, "come four 5", "come four 1", "come four 00", "come four 9999")

    def test_no_stretch(self):
        self.refuse(NoStretch, "come a a", "come a 1a", "come a 12345", "come a 7", "come a 13", "come ab 2",
                    "come ab 01010", "come hex f", "go a 8", "go a a", "go a 1", "go a 3", "go a 137", "go a 12345",
                    "go ab 0", "go ab 2", "go hex e", "go four 5", "go four a", "go a 07", "go a 013")

    def test_no_text_of_an_n(self):
        for verb in BY_NUMBER:
            self.refuse(NoText, f"{verb} a a", f"{verb} a 1f", f"{verb} a 00", f"{verb} a 01", f"{verb} ab 2",
                        f"{verb} ab 102", f"{verb} hex 0f", f"{verb} hex 00", f"{verb} a " + "0" * 30,
                        f"{verb} ab " + "1" * 29 + "2")

    def test_as_the_stages_refuse(self):
        self.refuse(TooMany, "nth ab 1" + "0" * 19)
        self.refuse(NoNumber, "long ab 0", "long four 61")

    def test_a_stretch_may_begin_with_0(self):
        desk = desk_of(a=(10, []))
        self.assertEqual([desk.say(f"come a {word}") for word in ["0", "00", "0123", "000"]], ["ok"] * 4)
        self.assertEqual(desk.say("show a"), "10 0 00 000 0123")
        self.assertEqual([desk.say(f"go a {word}") for word in ["00", "0"]], ["ok"] * 2)
        self.assertEqual(desk.say("show a"), "10 000 0123")


class Runs(unittest.TestCase):
    def some_word(self, source, signs, sizes):
        return "".join(source.choice(signs) for _ in range(source.choice(sizes)))

    def some_row(self, source, names):
        verb = source.choice(["rule", "rule", "come", "come", "come", "go", "go", "drop", "nth", "long", "endless",
                              "show"] + BY_NUMBER)
        name = source.choice(names)
        if verb == "rule":
            base = source.choice([2, 2, 3, 10, 16, 1, 17])
            signs = "012f"[:max(2, min(base, 4))]
            stretches = {self.some_word(source, signs, [1, 2, 3]) for _ in range(source.randrange(4))}
            return " ".join([verb, name, str(base)] + sorted(stretches))
        if verb in ALONE:
            return f"{verb} {name}"
        if verb in ("nth", "long"):
            return f"{verb} {name} {source.choice([0, 1, 2, 5, 9, source.randrange(70)])}"
        if verb in BY_STRETCH:
            return f"{verb} {name} " + self.some_word(source, "0011122af", [1, 1, 2, 2, 3, 4, 5])
        return f"{verb} {name} " + self.some_word(source, "1011200af", [1, 1, 2, 3, 4, 5])

    def is_small(self, hand, row):
        """Whether the going through by hand, which ends at 3000, can tell the answer."""
        verb, name = row.split(" ")[:2]
        if name not in hand.rules or verb not in ("nth", "next", "last", "below", "sum"):
            return True
        rule, word = hand.rules[name], row.split(" ")[2]
        if verb == "nth":
            return int(word) < len(good_numbers(rule, 3000)) or not goes_on(rule)
        n = number_in(rule[0], word)
        if n is None or verb != "next" or not goes_on(rule):
            return n is None or n < 3000
        return n <= max([-1] + good_numbers(rule, 3000))

    def test_long_runs(self):
        for seed in range(6):
            source = random.Random(seed)
            desk, hand = Desk(), ByHand()
            for _ in range(250):
                row = self.some_row(source, ["a", "b", "c"])
                if not self.is_small(hand, row):
                    continue
                told = answer(desk.say, row)
                self.assertEqual(told[1] if isinstance(told, tuple) else told, hand.say(row), (seed, row, hand.rules))
                self.assertEqual(desk.names(), sorted(hand.rules))

    def test_every_kind_of_rule(self):
        for rule in KINDS:
            desk, hand = Desk(), ByHand()
            for row in [f"rule r {write_rule(rule)}", "show r", "endless r", "good r 0", "good r 1", "good r 10",
                        "below r 101", "sum r 110", "last r 100", "last r 1", "next r 0", "next r 1", "nth r 0",
                        "nth r 1", "long r 1", "long r 2", "long r 60"]:
                if self.is_small(hand, row):
                    self.assertEqual(desk.say(row), hand.say(row), (rule, row))

    def test_twenty_rules(self):
        desk, hand = Desk(), ByHand()
        for k, rule in enumerate(rules(12, seed=27)[-20:]):
            for each in [desk, hand]:
                each.say(f"rule {'abcdefghijklmnopqrst'[k] * 3} {write_rule(rule)}")
        self.assertEqual(len(desk.names()), 20)
        for name in desk.names():
            for row in [f"show {name}", f"below {name} 110", f"endless {name}"]:
                self.assertEqual(desk.say(row), hand.say(row))

    def test_many_comings_and_goings(self):
        desk, hand = desk_of(a=(2, [])), ByHand()
        hand.say("rule a 2")
        for k in range(30):
            word = f"{k % 16:04b}"
            for row in [f"come a {word}", "below a 11111111", f"go a {word}", "show a", "come a 1", "sum a 1111111",
                        "nth a 3", "go a 1"]:
                self.assertEqual(desk.say(row), hand.say(row))


class OwnDesk(unittest.TestCase):
    def test_what_is_refused_changes_nothing(self):
        desk = desk_of(a=rule_by(10, "13", "7"), four=rule_by(10, "1", "2", "3", "4"))
        before = state(desk)
        for row in ["rule a x", "rule b x", "rule b ", "rule b", "come four 5", "come a 7", "come a a", "go a 5",
                    "drop b", "drop", "long a 0", "nth a 99999999999999999999x", "good a 00", "x", None, "drop a ",
                    "rule c 10 7 13"]:
            self.assertIn(answer(desk.say, row), (NoRow, NoName, NoText, NoStretch, TooMany, NoNumber))
            self.assertEqual(state(desk), before)

    def test_asking_changes_nothing(self):
        desk = desk_of(a=rule_by(10, "13", "7"), b=(2, []))
        before = state(desk)
        rows = ["good a 5", "below a 999999", "nth a 50", "next a 7", "last a 7", "sum a 999", "long a 50", "endless a",
                "show a"]
        first = [desk.say(row) for row in rows]
        self.assertEqual([desk.say(row) for row in reversed(rows)], first[::-1])
        self.assertEqual(state(desk), before)

    def test_told_names_are_the_askers_own(self):
        desk = desk_of(a=(10, []), b=(2, []))
        told = desk.names()
        told.append("c")
        told.reverse()
        self.assertEqual(desk.names(), ["a", "b"])
        self.assertIsNot(desk.names(), desk.names())

    def test_two_desks_share_nothing(self):
        one, other = Desk(), Desk()
        one.say("rule a 10 7")
        self.assertEqual(other.names(), [])
        self.assertRaises(NoName, other.say, "show a")
        other.say("rule a 2 1")
        one.say("come a 8")
        self.assertEqual(other.say("show a"), "2 1")
        other.say("drop a")
        self.assertEqual(one.say("show a"), "10 7 8")
        self.assertEqual(Desk().names(), [])

    def test_two_names_share_nothing(self):
        desk = Desk()
        for row in ["rule a 10 7", "rule b 10 7", "come a 8", "go b 7"]:
            desk.say(row)
        self.assertEqual([desk.say("show a"), desk.say("show b")], ["10 7 8", "10"])
        desk.say("drop a")
        self.assertEqual(desk.say("show b"), "10")

    def test_a_dropped_name_may_come_back(self):
        desk = desk_of(a=rule_by(10, "7"))
        desk.say("drop a")
        self.assertRaises(NoName, desk.say, "drop a")
        desk.say("rule a 10")
        self.assertEqual(desk.say("show a"), "10")


if __name__ == "__main__":
    unittest.main()
