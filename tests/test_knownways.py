"""[A8]: the ways that are known in print."""

import unittest

from doubtbooks.knownways import abort_with_work, all_forced, commit_with_work, presumed_abort, presumed_commit
from doubtbooks.protocols import alike_for, protocol_error


class KnownWaysTest(unittest.TestCase):

    def test_the_table(self):
        thin, begun = ("none", "forced", "none"), ("forced", "forced", "none")
        self.assertEqual(presumed_abort(), (thin, ("forced", "forced", "none", ("commit",), "abort", False)))
        self.assertEqual(abort_with_work(), (thin, ("none", "forced", "none", ("commit",), "abort", True)))
        self.assertEqual(presumed_commit(), (begun, ("forced", "none", "forced", ("abort",), "commit", False)))
        self.assertEqual(commit_with_work(), (begun, ("none", "forced", "none", ("abort", "commit"), "commit", True)))

    def test_all_forced(self):
        for presumed in ("abort", "commit"):
            forced = ("forced",) * 3
            wanted = (forced, forced + (("abort", "commit"), presumed, False))
            self.assertEqual(all_forced(presumed), wanted)
            self.assertEqual(all_forced(presumed=presumed), wanted)

    def test_they_make_protocols(self):
        ways = [presumed_abort(), abort_with_work(), presumed_commit(), commit_with_work()]
        for head, manner in ways + [all_forced("abort"), all_forced("commit")]:
            self.assertIsNone(protocol_error(alike_for(head, manner, 3)))


if __name__ == "__main__":
    unittest.main()
