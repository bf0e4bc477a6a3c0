"""[A7], [A9]: the texts of protocols."""

import unittest

from doubtbooks.errors import BadProtocol, BadText
from doubtbooks.protocols import protocol_error
from doubtbooks.protocoltexts import protocol_text, read_protocol
from tests.helping import DONE, HEADS, MANNERS, THIN, UNDONE, Unchanged, any_values, raised, same, some_protocols

HEAD_LINE = "head none forced none"
LINE = "manner forced forced none thanks commit presumed abort"
SENT_LINE = LINE + " sent"

WRONG_HEADS = (
    "", " ", "head", "head ", "head none forced", "head none forced none ", " head none forced none",
    "head  none forced none", "head none forced none none", "head none forced sure", "head none Forced none",
    "Head none forced none", "heads none forced none", "none forced none", "head none forced ", "head,none,forced,none",
    "head\tnone forced none", "head none forced none\r", LINE, "head 0 1 2", "head none forced None")

WRONG_LINES = (
    "", " ", "manner", LINE + " ", " " + LINE, LINE + " sent ", LINE + "  sent", LINE + " sent sent", LINE + " kept",
    LINE + " Sent", LINE + " unsent", LINE + "sent", LINE + "\r", LINE.replace(" ", "  ", 1), LINE[1:], LINE[:-1],
    LINE.replace("manner", "head"), LINE.replace("manner", "Manner"), LINE.replace("forced", "sure", 1),
    LINE.replace("none", "some"), LINE.replace(" none", ""), LINE.replace("none", "none none"), HEAD_LINE,
    LINE.replace("thanks", "thank"), LINE.replace("thanks commit", "thanks"), LINE.replace("thanks commit ", ""),
    LINE.replace("thanks commit", "thanks committed"), LINE.replace("thanks commit", "thanks abort commit"),
    LINE.replace("thanks commit", "thanks ()"), LINE.replace("thanks commit", "thanks Both"),
    LINE.replace("presumed", "presume"), LINE.replace(" presumed abort", ""), LINE.replace("presumed abort", "presumed"),
    LINE.replace("presumed abort", "presumed none"), LINE.replace("presumed abort", "presumed both"),
    LINE.replace("presumed abort", "presumed aborted"), LINE.replace("thanks commit presumed abort",
                                                                     "presumed abort thanks commit"),
    LINE.replace(" ", "\t"), LINE.replace("presumed abort", "sent presumed abort"))


class TextTest(unittest.TestCase):

    def test_each_part(self):
        self.assertEqual(protocol_text((("lazy", "none", "forced"), (UNDONE,))), "head lazy none forced\n" + LINE)
        self.assertEqual(protocol_text((THIN, (UNDONE[:5] + (True,), UNDONE))),
                         HEAD_LINE + "\n" + SENT_LINE + "\n" + LINE)
        for thanks, word in (((), "none"), (("abort",), "abort"), (("commit",), "commit"), (("abort", "commit"), "both")):
            text = protocol_text((THIN, (("none", "lazy", "forced", thanks, "commit", False),)))
            self.assertEqual(text, HEAD_LINE + "\nmanner none lazy forced thanks " + word + " presumed commit")

    def test_all_ways_come_back_and_are_unlike(self):
        texts = set()
        for head in HEADS:
            for manner in MANNERS:
                protocol = (head, (manner,))
                text = protocol_text(protocol)
                self.assertTrue(same(read_protocol(text), protocol), text)
                texts.add(text)
        self.assertEqual(len(texts), 11664)

    def test_mixed_ones_come_back_and_are_unlike(self):
        protocols = some_protocols(500, 2)
        texts = {}
        for protocol in protocols:
            text = protocol_text(protocol)
            self.assertEqual(text.count("\n"), len(protocol[1]))
            self.assertTrue(same(read_protocol(text), protocol), text)
            self.assertIsNone(protocol_error(read_protocol(text)))
            self.assertEqual(texts.setdefault(text, protocol), protocol)

    def test_by_name_and_unchanged(self):
        for protocol in some_protocols(20, 3):
            with Unchanged(self, protocol):
                text = protocol_text(protocol=protocol)
                self.assertEqual(text, protocol_text(protocol))
                self.assertEqual(read_protocol(value=text), protocol)


class ReadTest(unittest.TestCase):

    def check(self, text, line):
        self.assertTrue(same(raised(BadText, read_protocol, text), {"line": line}), text)

    def test_no_strings(self):
        for value in any_values() + [[HEAD_LINE, LINE], (HEAD_LINE + "\n" + LINE,), (THIN, (UNDONE,)), 3]:
            if not isinstance(value, str):
                with Unchanged(self, value):
                    self.check(value, 0)
                    self.assertEqual(raised(BadText, read_protocol, value=value), {"line": 0})

    def test_other_strings(self):
        for value in any_values():
            if isinstance(value, str) and value != HEAD_LINE:
                self.check(value, 0)

    def test_wrong_head(self):
        for head in WRONG_HEADS:
            for rest in ("", "\n", "\n" + LINE, "\nwrong", ("\n" + LINE) * 7):
                self.check(head + rest, 0)

    def test_wrong_lines_in_each_place(self):
        for wrong in WRONG_LINES:
            for place in range(1, 7):
                lines = [HEAD_LINE] + [LINE, SENT_LINE] * 3
                lines[place] = wrong
                self.check("\n".join(lines), place)
                self.check("\n".join(lines[:place + 1]), place)

    def test_the_first_wrong_line(self):
        self.check("\n".join([HEAD_LINE, LINE, "wrong", LINE, "wrong"]), 2)
        self.check("\n".join([HEAD_LINE, LINE, HEAD_LINE, "wrong"]), 2)

    def test_line_feeds(self):
        self.check(HEAD_LINE + "\n", 1)
        self.check(HEAD_LINE + "\n\n" + LINE, 1)
        self.check(HEAD_LINE + "\n" + LINE + "\n", 2)
        self.check("\n" + HEAD_LINE + "\n" + LINE, 0)
        self.check(HEAD_LINE + ("\n" + LINE) * 6 + "\n", 7)

    def test_too_few_and_too_many(self):
        self.assertEqual(raised(BadProtocol, read_protocol, HEAD_LINE), {"error": "manners"})
        for many in range(1, 7):
            self.assertEqual(read_protocol(HEAD_LINE + ("\n" + LINE) * many), (THIN, (UNDONE,) * many))
        for many in (7, 8, 300):
            text = HEAD_LINE + ("\n" + LINE) * many
            self.assertEqual(raised(BadProtocol, read_protocol, text), {"error": "manners"})
            self.check(text + "\nwrong", many + 1)

    def test_one_sign_changed(self):
        text = protocol_text((THIN, (DONE, UNDONE[:5] + (True,))))
        for place in range(len(text)):
            for sign in ("", " ", "\n", "x", text[place] * 2):
                other = text[:place] + sign + text[place + 1:]
                if other == text:
                    continue
                line = text[:place].count("\n")
                if text[place] == "\n" and sign != "\n\n":
                    self.check(other, line)
                else:
                    self.assertGreaterEqual(raised(BadText, read_protocol, other)["line"], line)
                    self.assertLessEqual(raised(BadText, read_protocol, other)["line"], line + 1)


if __name__ == "__main__":
    unittest.main()
