"""Point 15: trial and tried; point 3 (g)."""

import unittest

from spoilorder.errors import BadOutcome, NothingToUndo
from spoilorder.hosts import Host
from tests.common import A, B, any_values, one_group
from tests.test_hosts import a_host, told

DEEDS = (("begin", ("a", "b")), ("run", "p", "a", "pass"), ("change", "a"))


class Odd(Exception):
    """An error that is none of the package's."""


class TrialTest(unittest.TestCase):
    def setUp(self):
        self.host = a_host(DEEDS)
        self.before = told(self.host)
        self.twin = self.host.copy()

    def unchanged(self):
        self.assertEqual(told(self.host), self.before)
        self.assertTrue(self.host == self.twin)

    def test_left_as_it_was(self):
        with self.host.trial() as trial:
            self.assertEqual(self.host.run("p", "b", "pass"), 1)
            self.host.tell(0, "fail")
            self.host.change("v")
            self.host.begin(("v",))
            self.host.gap("q")
            self.assertEqual((self.host.log[0][3], self.host.left), ("fail", ("v",)))
        self.unchanged()
        self.assertIsNotNone(trial)

    def test_without_a_name(self):
        with self.host.trial():
            self.host.clear()
        self.unchanged()

    def test_what_was_taken_back(self):
        with self.host.trial():
            for _ in DEEDS:
                self.host.back()
            self.assertRaises(NothingToUndo, self.host.back)
            self.host.run("q", "b")
        self.unchanged()

    def test_kept(self):
        with self.host.trial() as trial:
            self.host.run("p", "b", "fail")
            self.assertIsNone(trial.keep())
            self.host.run("p", "b", "pass")
        self.assertTrue(self.host == a_host(DEEDS + (("run", "p", "b", "fail"), ("run", "p", "b", "pass"))))
        for _ in range(2):
            self.host.back()
        self.unchanged()

    def test_kept_what_was_taken_back(self):
        with self.host.trial() as trial:
            self.host.back()
            self.host.back()
            trial.keep()
        self.assertTrue(self.host == a_host(DEEDS[:1]))

    def test_an_error_goes_on(self):
        for error in (Odd, KeyError, BadOutcome, KeyboardInterrupt):
            for keeps in (False, True):
                with self.assertRaises(error):
                    with self.host.trial() as trial:
                        self.host.clear()
                        if keeps:
                            trial.keep()
                        raise error("odd")
                self.unchanged()

    def test_an_error_that_does_not_leave_the_block(self):
        with self.host.trial() as trial:
            self.host.clear()
            self.assertRaises(BadOutcome, self.host.tell, 0, None)
            trial.keep()
        self.assertTrue(self.host == a_host(DEEDS + (("clear",),)))

    def test_left_early(self):
        for keeps in (False, True):
            for _ in range(1):
                with self.host.trial() as trial:
                    self.host.clear()
                    if keeps:
                        trial.keep()
                    break
            self.assertEqual(len(self.host.log), 1 + keeps)

    def test_within_one_another(self):
        for outer_keeps in (False, True):
            for inner_keeps in (False, True):
                host = a_host(DEEDS)
                with host.trial() as outer:
                    host.run("p", "b", "fail")
                    with host.trial() as inner:
                        host.run("q", "v", "pass")
                        if inner_keeps:
                            inner.keep()
                    self.assertEqual(len(host.log), 2 + inner_keeps)
                    if outer_keeps:
                        outer.keep()
                right = DEEDS
                if outer_keeps:
                    right += (("run", "p", "b", "fail"),)
                if outer_keeps and inner_keeps:
                    right += (("run", "q", "v", "pass"),)
                self.assertTrue(host == a_host(right))

    def test_an_error_of_the_inner_one(self):
        with self.host.trial() as outer:
            self.host.clear()
            with self.assertRaises(Odd):
                with self.host.trial() as inner:
                    self.host.clear()
                    inner.keep()
                    outer.keep()
                    raise Odd
            self.assertEqual(len(self.host.log), 2)
        self.assertTrue(self.host == a_host(DEEDS + (("clear",),)))

    def test_one_trial_behind_another(self):
        with self.host.trial() as first:
            first.keep()
        with self.host.trial():
            self.host.clear()
            first.keep()
        self.unchanged()

    def test_the_same_trial_again(self):
        trial = self.host.trial()
        self.host.gap("q")
        for keeps in (True, False, True):
            before, many = told(self.host), len(self.host.log)
            with trial:
                self.host.clear()
                if keeps:
                    trial.keep()
            self.assertEqual(len(self.host.log), many + keeps)
            self.assertEqual(told(self.host)[keeps:], before)

    def test_of_its_own_host_alone(self):
        other = a_host(DEEDS)
        with self.host.trial() as trial:
            other.clear()
            self.host.clear()
            copied = self.host.copy()
        self.unchanged()
        self.assertEqual((len(other.log), len(copied.log)), (2, 2))


class TriedTest(unittest.TestCase):
    def setUp(self):
        self.host = a_host(DEEDS)
        self.twin = self.host.copy()
        self.seen = []

    def deed(self, host):
        self.seen.append(host)
        host.run("q", "b", "pass")
        return host.log, host.left

    def right(self):
        return (("run", "p", A, "pass"), ("run", "q", B, "pass")), ("a",)

    def test_returns_what_the_deed_returned(self):
        self.assertEqual(self.host.tried(self.deed), self.right())
        self.assertEqual(self.host.tried(deed=self.deed), self.right())
        self.assertTrue(self.host == self.twin)
        self.assertTrue(self.seen[0] is self.host)
        self.assertIsNone(self.host.tried(lambda host: None))
        self.assertEqual(self.host.tried(lambda host: [host.left]), [("a", "b")])

    def test_kept(self):
        self.assertEqual(self.host.tried(self.deed, keep=True), self.right())
        self.assertTrue(self.host == a_host(DEEDS + (("run", "q", "b", "pass"),)))
        self.host.back()
        self.assertTrue(self.host == self.twin)

    def test_kept_by_true_alone(self):
        for keep in [value for value in any_values() if value is not True] + [1, "True", [True], (True,), {"keep": True}]:
            self.assertEqual(self.host.tried(self.deed, keep=keep), self.right())
            self.assertTrue(self.host == self.twin)

    def test_keep_by_name_only(self):
        self.assertRaises(TypeError, self.host.tried, self.deed, True)
        self.assertEqual(self.seen, [])

    def test_a_deed_that_raises(self):
        def deed(host):
            host.clear()
            host.run("p", "a", "skip")

        def odd(host):
            host.clear()
            raise Odd(host)

        for keep in (True, False):
            with self.assertRaises(BadOutcome) as caught:
                self.host.tried(deed, keep=keep)
            self.assertEqual(caught.exception.value, "skip")
            self.assertRaises(Odd, self.host.tried, odd, keep=keep)
            self.assertTrue(self.host == self.twin)
            self.assertEqual(told(self.host), told(self.twin))

    def test_within_one_another(self):
        for keep in (True, False):
            host = a_host(DEEDS)
            inner = host.tried(lambda one: one.tried(self.deed, keep=True), keep=keep)
            self.assertEqual(inner, self.right())
            self.assertEqual(len(host.log), 1 + keep)
            host = a_host(DEEDS)
            host.tried(lambda one: (one.clear(), one.tried(self.deed)), keep=keep)
            self.assertEqual(host.log[1:], (("clear",),) * keep)

    def test_host_of_any_workers(self):
        host = Host(one_group(), ("x", "y", "z"))
        self.assertEqual(host.tried(lambda one: [one.run("x", "a"), one.run("z", "v")]), [0, 1])
        self.assertEqual(host.log, ())


if __name__ == "__main__":
    unittest.main()
