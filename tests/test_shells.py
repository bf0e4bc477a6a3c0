"""[L1], [L2]: shells, line by line."""

import itertools
import random
import re
import unittest

from doubtbooks.costs import counts, plain_run
from doubtbooks.deedtexts import run_text
from doubtbooks.fitting import is_safe, lacks
from doubtbooks.homing import way_home
from doubtbooks.knownways import abort_with_work, commit_with_work, presumed_abort, presumed_commit
from doubtbooks.managerlogs import site_text
from doubtbooks.managers import Manager
from doubtbooks.moving import led, open_deeds
from doubtbooks.protocols import alike_for
from doubtbooks.protocoltexts import protocol_text
from doubtbooks.shells import Shell
from doubtbooks.splitting import splitting
from tests.helping import (
    DONE, ENDS, STRENGTHS, UNDONE, USUAL, VOTES, PlainManager, Unchanged, any_values, chosen, lacking, safe_protocols,
    shown, some_protocols)

WEAK = (("none", "lazy", "none"), (UNDONE, UNDONE))
WAYS = {"presumed_abort": presumed_abort, "abort_with_work": abort_with_work, "presumed_commit": presumed_commit,
        "commit_with_work": commit_with_work}
NAME, INT = "([a-z0-9]{1,20})", "(0|[1-9][0-9]{0,2})"
FORMS = {
    "protocol": "protocol ((?s:.*))", "way": f"way ({'|'.join(WAYS)}) {INT}", "enter": f"enter {NAME}",
    "do": f"do {NAME} ((?s:.*))", "fall": f"fall {INT} {INT}", "home": "home", "state": f"state {NAME}", "told": f"told {NAME}",
    "open": f"open {NAME}", "last": f"last {NAME}", "log": f"log {INT}", "names": "names", "splits": "splits",
    "counts": "counts (commit|abort)", "lacks": f"lacks {INT}"}
STRENGTH = f"({'|'.join(STRENGTHS)})"
HEAD_LINE = " ".join(["head"] + [STRENGTH] * 3)
MANNER_LINE = " ".join(["manner"] + [STRENGTH] * 3) + " thanks (none|abort|commit|both) presumed (abort|commit)( sent)?"
DEED = ("begin|quit|(?:yes|no|read|count|refused|thanked|ask|restore) [0-5]|hear [0-5] (?:abort|commit)|stop [0-3]"
        "|fall [0-5] [0-3]")
NO_MANAGER = [word for word in FORMS if word not in ("protocol", "way")]
LINES = (
    "way presumed_abort 2", "way presumed_commit 3", "way presumed_abort 0", "way abort_with_work 999", "enter a", "enter b1",
    "do a begin", "do a yes 0", "do a", "do a ", "fall 0 0", "fall 1 0", "fall 9 9", "home", "state a", "state zz", "told a",
    "open a", "last a", "log 0", "log 7", "names", "splits", "counts commit", "counts abort", "lacks 0", "lacks 6")
ODD = (
    "", " ", "\n", "way", "way ", "way presumed_abort", "way presumed_abort ", "way presumed_abort  2", "way presumed_abort 02",
    "way presumed_abort 2 ", " way presumed_abort 2", "way presumed_abort -1", "way presumed_abort +2", "way presumed_abort 1000",
    "way presumed_abort two", "way all_forced 2", "way Presumed_abort 2", "way presumed_abort\n2", "way presumed_abort 2\n",
    "protocol", "Protocol head", "protocols", "protocol\nhead none forced none", "enter", "enter ", "enter A", "enter a b",
    "enter  a", "enter a ", "enter a\n", "enter a_b", "enter " + "a" * 21, "do", "do ", "do a", "do A begin", "do  begin",
    "do a\nbegin", "do -", "do - begin", "fall", "fall 0", "fall 0 ", "fall 0 00", "fall 00 0", "fall 0 0 0", "fall 0  0",
    "fall -1 0", "fall a 0", "fall 1000 0", "fall 0 1000", "fall 0 0\n", "home ", " home", "home 0", "Home", "home\n", "state",
    "state ", "state A", "state a b", "told", "told ", "told a b", "open", "open a 0", "open  a", "last", "last ", "last a ",
    "log", "log ", "log 00", "log a", "log 0 0", "log 01", "log -0", "log 1000", "names ", "names a", "name", "splits 0",
    "split", "counts", "counts ", "counts both", "counts none", "counts commit ", "counts  commit", "counts Commit", "lacks",
    "lacks ", "lacks a", "lacks 00", "lacks 0 0", "lacks commit", "what", "error Unfit", "no manager", "done", "begin", "yes 0",
    "twin", "go_home", "exit", "help", "?", "state\ta")


class PlainShell:
    """A shell that reads lines by patterns: [L1] once more."""

    def __init__(self):
        self.plain = None

    def say(self, line):
        told = self.read(line)
        if told is None:
            return "what"
        word, items = told
        if self.plain is None and word in NO_MANAGER:
            return "no manager"
        return getattr(self, "say_" + word)(*items)

    def read(self, line):
        for word, form in FORMS.items():
            match = re.fullmatch(form, line) if isinstance(line, str) else None
            if match:
                return word, match.groups()
        return None

    def renew(self, protocol):
        self.plain = PlainManager(protocol)
        if len(protocol[1]) > 1:
            return "splits" if any(lacking(protocol[0], manner) for manner in protocol[1]) else "safe"
        return "splits" if splitting(protocol) else "safe"

    def say_protocol(self, text):
        first, *lines = text.split("\n")
        head = re.fullmatch(HEAD_LINE, first)
        manners = [re.fullmatch(MANNER_LINE, line) for line in lines]
        if head is None or None in manners:
            return "error BadText"
        if not 1 <= len(manners) <= 6:
            return "error BadProtocol"
        thanks = {"none": (), "abort": ("abort",), "commit": ("commit",), "both": ENDS}
        return self.renew((head.groups(), tuple(
            each.groups()[:3] + (thanks[each[4]], each[5], each[6] is not None) for each in manners)))

    def say_way(self, word, number):
        if not 1 <= int(number) <= 6:
            return "error Unfit"
        head, manner = WAYS[word]()
        return self.renew((head, (manner,) * int(number)))

    def say_enter(self, name):
        if name in self.plain.plains:
            return "error Unfit"
        if len(self.plain.plains) == 40:
            return "error TooMany"
        self.plain.enter(name)
        return "done"

    def say_do(self, name, text):
        if re.fullmatch(DEED, text) is None:
            return "error BadText"
        if name not in self.plain.plains:
            return "error Unfit"
        deed = tuple(int(word) if word.isdigit() else word for word in text.split(" "))
        plain = self.plain.plains[name]
        if deed[0] in ("stop", "fall") or deed not in list(plain.all_deeds()) or not plain.can(deed):
            return "error Refused"
        self.plain.do(name, deed)
        return "done"

    def say_fall(self, site, kept):
        site, kept = int(site), int(kept)
        if site >= len(self.plain.sites):
            return "error Unfit"
        if not self.plain.sites[site][1] <= kept <= len(self.plain.sites[site][0]):
            return "error Refused"
        self.plain.fall(site, kept)
        return "done"

    def say_home(self):
        return str(self.plain.go_home()) + " deeds"

    def of(self, name, tell):
        return tell(self.plain.plains[name]) if name in self.plain.plains else "error Unfit"

    def say_state(self, name):
        return self.of(name, lambda plain: " ".join([plain.phase] + plain.phases))

    def say_told(self, name):
        words = {"": "none", "abort": "abort", "commit": "commit", "abortcommit": "both"}
        return self.of(name, lambda plain: words["".join(sorted(plain.told))])

    def text(self, deed):
        return " ".join(str(item) for item in deed)

    def say_open(self, name):
        def tell(plain):
            can = sorted(deed for deed in plain.all_deeds() if plain.can(deed) and deed[0] not in ("stop", "fall"))
            return "; ".join(self.text(deed) for deed in can) or "none"
        return self.of(name, tell)

    def say_last(self, name):
        return self.of(name, lambda plain: self.text(self.plain.deeds[name][-1]) if self.plain.deeds[name] else "none")

    def say_log(self, site):
        if int(site) >= len(self.plain.sites):
            return "error Unfit"
        rows, sure = self.plain.sites[int(site)]
        return "".join(f"{name} {row}{' sure' if k < sure else ''}\n" for k, (name, row) in enumerate(rows))

    def say_names(self):
        return " ".join(self.plain.plains) or "none"

    def say_splits(self):
        return " ".join(sorted(name for name, plain in self.plain.plains.items() if len(plain.told) == 2)) or "none"

    def say_counts(self, end):
        protocol = self.plain.protocol
        return " ".join(str(number) for number in counts(protocol, plain_run(protocol, end, ())))

    def say_lacks(self, number):
        head, manners = self.plain.protocol
        return (", ".join(lacking(head, manners[int(number)])) or "none") if int(number) < len(manners) else "error Unfit"


def shell_of(*lines):
    """A shell to which these lines were said."""
    shell = Shell()
    for line in lines:
        shell.say(line)
    return shell


def all_told(shell):
    """All that a shell tells of itself, by lines that change nothing."""
    names = shell.say("names")
    told = [names] + [shell.say(line) for line in ("splits", "counts commit", "counts abort")]
    told += [shell.say(word + " " + str(number)) for word in ("log", "lacks") for number in range(8)]
    if names not in ("no manager", "none"):
        told += [shell.say(word + " " + name) for name in names.split(" ") for word in ("state", "told", "open", "last")]
    return told


class ShellCase(unittest.TestCase):

    def said(self, shell, pairs):
        """Each line has to be answered so, by place and by name."""
        for k, (line, answer) in enumerate(pairs):
            told = shell.say(line) if k % 2 else shell.say(line=line)
            self.assertEqual(told, answer, (k, line))
            self.assertIs(type(told), str)

    def nothing(self, shell, line, answer):
        """The line is answered so, and again so, and changes nothing."""
        before = all_told(shell)
        with Unchanged(self, line):
            for _ in range(2):
                self.assertEqual(shell.say(line), answer, line)
        self.assertEqual(all_told(shell), before, line)


class LineTest(ShellCase):

    def test_way(self):
        for word, known in WAYS.items():
            for many in range(1, 7):
                shell = Shell()
                self.said(shell, [(f"way {word} {many}", "safe"), ("names", "none"), ("splits", "none")])
                protocol = alike_for(*known(), many)
                for end in ENDS:
                    wanted = " ".join(str(number) for number in counts(protocol, plain_run(protocol, end, ())))
                    self.assertEqual(shell.say("counts " + end), wanted)
                self.assertEqual([shell.say(f"lacks {i}") for i in range(many + 1)], ["none"] * many + ["error Unfit"])
        shell = shell_of("way presumed_abort 2", "enter a", "do a begin")
        for number in (0, 7, 8, 10, 60, 100, 999):
            self.nothing(shell, f"way presumed_commit {number}", "error Unfit")
        self.said(shell, [("way presumed_commit 2", "safe"), ("names", "none")])

    def test_protocol(self):
        for protocol in some_protocols(60, 440) + safe_protocols(30, 441, 1):
            shell = Shell()
            text = protocol_text(protocol)
            self.assertEqual(shell.say("protocol " + text), "safe" if is_safe(protocol) else "splits")
            self.assertEqual(shell.say("names"), "none")
            for i, manner in enumerate(protocol[1]):
                self.assertEqual(shell.say(f"lacks {i}"), ", ".join(lacks(protocol[0], manner)) or "none")
            self.assertEqual(shell.say(f"lacks {len(protocol[1])}"), "error Unfit")

    def test_protocol_texts_that_are_none(self):
        shell = shell_of("way presumed_abort 2", "enter a", "do a begin")
        text = protocol_text(USUAL)
        for wrong in ("", " ", " " + text, text + "\n", text + " ", text.replace("head", "Head"), "head none forced",
                      "head none forced none\nmanner", "head none forced none\n", "\n", "\n" + text, "presumed_abort 2"):
            self.nothing(shell, "protocol " + wrong, "error BadText")
        self.nothing(shell, "protocol head none forced none", "error BadProtocol")
        own = "\n" + text.split("\n")[1]
        self.nothing(shell, "protocol head none forced none" + own * 7, "error BadProtocol")
        self.assertEqual(shell.say("protocol head none forced none" + own * 6), "safe")
        for line in ("protocol ", "protocol x", "protocol head none forced none"):
            self.assertTrue(Shell().say(line).startswith("error Bad"))

    def test_enter(self):
        shell = shell_of("way presumed_abort 1")
        self.said(shell, [("enter b", "done"), ("enter a", "done"), ("enter " + "9" * 20, "done"), ("names", "b a " + "9" * 20)])
        self.nothing(shell, "enter a", "error Unfit")
        self.nothing(shell, "enter " + "9" * 21, "what")

    def test_enter_too_many(self):
        shell = shell_of("way presumed_abort 1")
        for k in range(40):
            self.assertEqual(shell.say(f"enter n{k}"), "done")
        self.nothing(shell, "enter more", "error TooMany")
        self.nothing(shell, "enter n7", "error Unfit")
        self.nothing(shell, "enter More", "what")
        self.assertEqual(shell.say("names"), " ".join(f"n{k}" for k in range(40)))

    def test_do(self):
        shell = shell_of("way presumed_abort 2", "enter a", "enter b")
        run = VOTES + (("hear", 0, "commit"), ("hear", 1, "commit"), ("thanked", 0), ("thanked", 1))
        for k, deed in enumerate(run):
            text = run_text((deed,))
            standing = led(USUAL, run[:k])
            for other in ("begin", "quit", "yes 0", "no 1", "count 0", "thanked 1", "hear 0 commit", "hear 1 abort", "ask 0"):
                deed_told = tuple(int(word) if word.isdigit() else word for word in other.split(" "))
                if deed_told not in open_deeds(USUAL, standing):
                    self.nothing(shell, "do a " + other, "error Refused")
            self.said(shell, [("do a " + text, "done"), ("last a", text), ("last b", "none")])
        self.said(shell, [("state a", "unknown committed committed"), ("state b", "idle active active")])

    def test_do_errors_in_their_order(self):
        shell = shell_of("way presumed_abort 2", "enter a", "do a begin")
        for text in ("", " ", "jump", "begin ", " begin", "yes", "yes 6", "yes 00", "begin\nyes 0", "yes 0\n", "\n", "hear 0",
                     "hear 0 none", "stop 4", "fall 0 4", "yes 0; yes 1", "yes  0", "Begin", "begin\n" * 500):
            self.nothing(shell, "do a " + text, "error BadText")
            self.nothing(shell, "do zz " + text, "error BadText")
            self.assertEqual(Shell().say("do a " + text), "no manager")
        for text in ("yes 0", "begin", "stop 0", "fall 5 3", "yes 5"):
            self.nothing(shell, "do zz " + text, "error Unfit")
        for text in ("begin", "stop 0", "fall 0 0", "fall 1 0", "yes 2", "yes 5", "stop 3", "count 0"):
            self.nothing(shell, "do a " + text, "error Refused")

    def test_fall(self):
        shell = shell_of("way presumed_abort 2", "enter a", "enter b", "do a begin", "do a yes 0", "do b begin")
        for line in ("fall 3 0", "fall 999 0", "fall 7 999"):
            self.nothing(shell, line, "error Unfit")
        for line in ("fall 1 0", "fall 1 2", "fall 0 1", "fall 2 999"):
            self.nothing(shell, line, "error Refused")
        self.said(shell, [
            ("log 1", "a prepared sure\n"), ("fall 1 1", "done"), ("last a", "fall 0 1"), ("last b", "fall 0 0"),
            ("state a", "voting prepared active"), ("state b", "voting blank active"), ("told a", "none"), ("told b", "abort"),
            ("fall 0 0", "done"), ("last a", "stop 0"), ("last b", "stop 0"), ("state b", "unknown blank active")])

    def test_home(self):
        shell = shell_of("way presumed_abort 2")
        self.said(shell, [("home", "0 deeds"), ("enter a", "done"), ("enter b", "done")])
        for deed in VOTES:
            shell.say("do a " + run_text((deed,)))
        many = len(way_home(USUAL, led(USUAL, VOTES))) + len(way_home(USUAL, led(USUAL, ())))
        self.said(shell, [
            ("home", f"{many} deeds"), ("home", "0 deeds"), ("state a", "unknown committed committed"),
            ("state b", "unknown aborted aborted"), ("last a", "thanked 1"), ("last b", "hear 1 abort"), ("told a", "commit"),
            ("told b", "abort")])

    def test_told(self):
        shell = shell_of("protocol " + protocol_text(WEAK), "enter x")
        self.assertEqual(shell.say("told x"), "none")
        for deed in VOTES:
            shell.say("do x " + run_text((deed,)))
        self.said(shell, [
            ("told x", "commit"), ("fall 0 0", "done"), ("splits", "none"), ("do x ask 0", "done"), ("do x hear 0 abort", "done"),
            ("told x", "both"), ("splits", "x"), ("enter w", "done"), ("splits", "x"), ("told w", "none")])

    def test_splits_of_many(self):
        shell = shell_of("protocol " + protocol_text(WEAK), "enter x", "enter b", "enter 7", "enter c")
        for name in ("x", "7", "c"):
            for deed in VOTES:
                shell.say(f"do {name} " + run_text((deed,)))
        self.said(shell, [("splits", "none"), ("fall 0 0", "done")])
        for name in ("x", "c", "7"):
            self.said(shell, [(f"do {name} ask 1", "done"), (f"do {name} hear 1 abort", "done")])
        self.said(shell, [("splits", "7 c x"), ("names", "x b 7 c")])

    def test_open(self):
        shell = shell_of("way presumed_abort 1", "enter a")
        self.said(shell, [
            ("open a", "begin"), ("do a begin", "done"), ("open a", "no 0; quit; read 0; yes 0"), ("do a read 0", "done"),
            ("open a", "count 0; quit"), ("fall 0 0", "done"), ("open a", "none")])
        for protocol in some_protocols(20, 442, 3):
            choice, shell, deeds = random.Random(443), shell_of("protocol " + protocol_text(protocol), "enter a"), ()
            for _ in range(12):
                can = [deed for deed in open_deeds(protocol, led(protocol, deeds)) if deed[0] not in ("stop", "fall")]
                self.assertEqual(shell.say("open a"), "; ".join(run_text((deed,)) for deed in can) or "none")
                if not can:
                    break
                deeds += (choice.choice(can),)
                self.assertEqual(shell.say("do a " + run_text(deeds[-1:])), "done")

    def test_log(self):
        shell = shell_of("way presumed_commit 2", "enter a", "enter b", "do a begin", "do b begin", "do b yes 1")
        manager = Manager(alike_for(*presumed_commit(), 2))
        for name, deeds in (("a", VOTES[:1]), ("b", VOTES[:1] + (("yes", 1),))):
            manager.enter(name)
            for deed in deeds:
                manager.do(name, deed)
        for site in range(3):
            self.assertEqual(shell.say(f"log {site}"), site_text(*manager.log_of(site)))
        self.assertEqual(shell.say("log 0"), "a begun sure\nb begun sure\n")
        for site in (3, 10, 999):
            self.nothing(shell, f"log {site}", "error Unfit")

    def test_names_that_none_has(self):
        shell = shell_of("way presumed_abort 2", "enter a")
        for word in ("state", "told", "open", "last"):
            self.nothing(shell, word + " b", "error Unfit")
            self.nothing(shell, word + " none", "error Unfit")
            self.nothing(shell, word + " B", "what")

    def test_lacks(self):
        text = protocol_text((("none", "lazy", "none"), (("none", "none", "none", (), "abort", False), DONE)))
        shell = shell_of("protocol " + text)
        self.said(shell, [
            ("lacks 0", "committed, head committed, prepared, thanks commit"), ("lacks 1", "begun, head committed"),
            ("lacks 2", "error Unfit"), ("lacks 999", "error Unfit")])


class OddLinesTest(ShellCase):

    def test_no_strings(self):
        for value in any_values() + [Shell(), Manager(USUAL), b"home", ("home",), ["home"]]:
            for shell in (Shell(), shell_of("way presumed_abort 2", "enter a", "do a begin")):
                if not isinstance(value, str):
                    self.assertEqual(shell.say(value), "what")

    def test_any_value(self):
        for value in any_values():
            for shell in (Shell(), shell_of("way presumed_abort 2", "enter a", "do a begin")):
                self.nothing(shell, value, "what")

    def test_odd_lines(self):
        for line in ODD:
            for shell in (Shell(), shell_of("way presumed_abort 2", "enter a", "do a begin")):
                self.assertEqual(PlainShell().say(line), "what", line)
                self.nothing(shell, line, "what")

    def test_changed_lines(self):
        choice = random.Random(444)
        signs = (" ", "", "\n", "0", "a", "A", "-", "7")
        whats = 0
        for line in LINES * 12:
            k = choice.randint(0, len(line))
            other = line[:k] + choice.choice(signs) + line[k + choice.randint(0, 1):]
            for ahead in ((), ("way presumed_abort 2", "enter a")):
                shell, plain = Shell(), PlainShell()
                for first in ahead:
                    self.assertEqual(shell.say(first), plain.say(first))
                answer = plain.say(other)
                whats += answer == "what"
                self.assertEqual(shell.say(other), answer, other)
        self.assertGreater(whats, 200)

    def test_no_manager(self):
        for line in LINES + ("do a jump", "do a begin\nbegin", "do zz ", "fall 999 999", "state none", "lacks 999"):
            shell, answer = Shell(), PlainShell().say(line)
            if line.split(" ")[0] in NO_MANAGER and answer != "what":
                self.assertEqual(answer, "no manager")
                self.nothing(shell, line, "no manager")
        # Nor is there one behind an error, or what is no line.
        shell = Shell()
        for line in ("way presumed_abort 7", "protocol ", "protocol head none forced none", "way presumed_abort", None):
            shell.say(line)
            self.assertEqual(shell.say("names"), "no manager")

    def test_words_of_the_table(self):
        self.assertEqual(len(FORMS), 15)
        for word in FORMS:
            for line in (word.upper(), " " + word, word + "s ", word[:-1]):
                self.assertEqual(Shell().say(line), "what")


class SecondReckoningTest(ShellCase):

    def line(self, choice, shell, words):
        """Some line, most of them to some effect."""
        names = list(shell.plain.plains) if shell.plain else []
        name = choice.choice(names + ["zz"]) if names else "zz"
        kind = choice.random()
        if kind < 0.5 and name != "zz":
            plain = shell.plain.plains[name]
            deeds = [deed for deed in plain.all_deeds() if plain.can(deed)]
            return f"do {name} " + " ".join(str(item) for item in chosen(choice, deeds or [("quit",)]))
        if kind < 0.6 and shell.plain:
            site = choice.randrange(len(shell.plain.sites))
            rows, sure = shell.plain.sites[site]
            return f"fall {site} {choice.randint(sure, len(rows) + (choice.random() < 0.1))}"
        if kind < 0.66:
            return "enter " + choice.choice("abcd")
        if kind < 0.68:
            return "home"
        if kind < 0.72:
            return choice.choice(LINES)
        if kind < 0.74:
            return choice.choice(ODD)
        if kind < 0.75 or not shell.plain:
            return words[choice.randrange(len(words))]
        return choice.choice(["state ", "told ", "open ", "last "]) + name if kind < 0.9 else choice.choice(
            ["log 0", "log 1", "log 2", "names", "splits", "counts commit", "counts abort", "lacks 0", "lacks 1"])

    def makers(self):
        protocols = some_protocols(40, 445, 3) + safe_protocols(20, 446, 1, 3)
        return ["protocol " + protocol_text(protocol) for protocol in protocols] + [
            f"way {word} {many}" for word in WAYS for many in (1, 2, 3)]

    def test_drawn_lines(self):
        choice = random.Random(447)
        makers, answers = self.makers(), set()
        for _ in range(60):
            shell, plain = Shell(), PlainShell()
            for _ in range(90):
                line = self.line(choice, plain, makers)
                before = all_told(shell) if choice.random() < 0.2 else None
                answer = plain.say(line)
                self.assertEqual(shell.say(line), answer, line)
                answers.add(answer if " " not in answer or answer.startswith("error") else "more")
                if before is not None and (answer in ("what", "no manager") or answer.startswith("error")):
                    self.assertEqual(all_told(shell), before, line)
            if plain.plain:
                self.assertEqual(shown(shell.manager), plain.plain.shown())
        self.assertLessEqual({"what", "done", "more", "safe", "splits", "none", "commit", "abort", "both", "error Unfit",
                              "error Refused"}, answers)

    def test_shells_by_turns(self):
        choice = random.Random(448)
        makers = self.makers()
        pairs = [(Shell(), PlainShell()) for _ in range(3)]
        for _ in range(1500):
            shell, plain = choice.choice(pairs)
            line = self.line(choice, plain, makers)
            self.assertEqual(shell.say(line), plain.say(line), line)

    def test_equal_lines_equal_answers(self):
        makers = self.makers()
        for seed in range(449, 459):
            choice, plain, lines, told = random.Random(seed), PlainShell(), [], []
            for _ in range(60):
                lines.append(self.line(choice, plain, makers))
                told.append(plain.say(lines[-1]))
            for _ in range(2):
                shell = Shell()
                self.assertEqual([shell.say(line) for line in lines], told)


class HoldsTest(ShellCase):
    """[L2]"""

    def test_behind_safe_nothing_splits(self):
        choice = random.Random(460)
        stepper = SecondReckoningTest()
        for protocol in safe_protocols(40, 461, 2, 3):
            shell, plain = Shell(), PlainShell()
            self.assertEqual(shell.say("protocol " + protocol_text(protocol)), "safe")
            plain.say("protocol " + protocol_text(protocol))
            for _ in range(80):
                line = stepper.line(choice, plain, ["names"])
                if not isinstance(line, str) or line.split(" ")[0] not in ("way", "protocol"):
                    self.assertEqual(shell.say(line), plain.say(line))
                    self.assertEqual(shell.say("splits"), "none")

    def test_behind_home(self):
        choice = random.Random(462)
        stepper = SecondReckoningTest()
        for protocol in some_protocols(60, 463, 3):
            shell, plain = Shell(), PlainShell()
            for each in (shell, plain):
                each.say("protocol " + protocol_text(protocol))
            for _ in range(50):
                line = stepper.line(choice, plain, ["names"])
                if line.split(" ")[0] not in ("way", "protocol"):
                    self.assertEqual(shell.say(line), plain.say(line))
            self.assertRegex(shell.say("home"), "^[0-9]+ deeds$")
            self.assertEqual(shell.say("home"), "0 deeds")
            for name in shell.say("names").split(" "):
                state = shell.say("state " + name).split(" ")
                if state[0] != "error":
                    self.assertEqual(state[0], "unknown")
                    self.assertFalse({"active", "prepared"} & set(state))

    def test_all_ways_of_a_number(self):
        for number in range(0, 1001):
            answer = Shell().say(f"way presumed_abort {number}")
            self.assertEqual(answer, "safe" if 1 <= number <= 6 else "what" if number > 999 else "error Unfit")
        signs = "".join(chr(code) for code in range(32, 127))
        for word in list(signs) + ["".join(pair) for pair in itertools.product(signs, repeat=2)]:
            answer = Shell().say("log " + word)
            right = word.isdigit() and (word[0] != "0" or word == "0")
            self.assertEqual(answer, "no manager" if right else "what", word)


if __name__ == "__main__":
    unittest.main()
