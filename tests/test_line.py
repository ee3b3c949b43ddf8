"""A line of calls as the interface takes it and gives its answers back."""

import contextlib
import io
import unittest

from roamair.world import answers
from tests.helper import (
    GREATEST, LEAST, accept, air, ask, begin, deliver, flat, give_up, join, leave, play, power, retry,
    sleep, snapshot, wake,
)

# One call of each place but begin, all in range once it's begun with two points and a message.
OTHERS = [
    power(0, 0), join(0, 1), leave(0), sleep(0), wake(0), accept(0, 0, 5), air(0, 0, 0, 0), retry(0, 0),
    give_up(0, 0), deliver(0),
]


class TheForm(unittest.TestCase):
    def test_each_answer_has_its_count_ahead(self):
        calls = [0, 2, 5, 5, 5, 2, 7, 1, 6, 1, 7, 99, 7, 1, 7, 0, 0, 3, 7, 3, 7]
        self.assertEqual(answers(calls), [1, 0, 1, 1, 2, 1, 1, 2, 1, 1, 1, 0, 1, -6])

    def test_a_single_call(self):
        self.assertEqual(answers([0, 1, 1, 1, 1]), [1, 0])
        self.assertEqual(answers([3, 0]), [1, -1])

    def test_answers_are_whole_numbers_in_a_list(self):
        told = answers(flat([begin()] + OTHERS))
        self.assertIs(type(told), list)
        self.assertEqual({type(number) for number in told}, {int})

    def test_what_is_handed_in_stays_as_it_was(self):
        calls = flat([begin(), join(0, 0), accept(0, 0, 9), join(0, 1), deliver(0), retry(0, 0), deliver(0)])
        before = list(calls)
        answers(calls)
        self.assertEqual(calls, before)

    def test_what_is_handed_in_is_only_read(self):
        class OnlyRead(list):
            def refuse(self, *anything):
                raise AssertionError("the list was written to")

            append = extend = insert = pop = remove = clear = reverse = sort = refuse
            __setitem__ = __delitem__ = __iadd__ = __imul__ = refuse

        calls = flat([begin(), join(0, 0), accept(0, 0, 9), join(0, 1), deliver(0)])
        self.assertEqual(answers(OnlyRead(calls)), answers(calls))

    def test_the_same_list_twice_is_answered_alike(self):
        calls = flat([begin(2), join(0, 0), accept(0, 0, 9), air(0, 0), power(1, 0), join(0, 1)] + OTHERS)
        self.assertEqual(answers(calls), answers(calls))

    def test_nothing_is_kept_from_one_line_to_the_next(self):
        answers(flat([begin(), join(0, 0), accept(0, 0, 9)]))
        self.assertEqual(ask(join(0, 0)), [[-1]])
        self.assertEqual(ask(begin(), join(0, 0), accept(0, 0, 9)), [[0], [1], [1, 1]])

    def test_an_answer_given_back_may_be_changed(self):
        calls = flat([begin(), join(0, 0)])
        first = answers(calls)
        first.append(5)
        self.assertEqual(answers(calls), [1, 0, 1, 1])

    def test_nothing_is_printed(self):
        out = io.StringIO()
        with contextlib.redirect_stdout(out), contextlib.redirect_stderr(out):
            answers(flat([begin()] + OTHERS))
        self.assertEqual(out.getvalue(), "")


class LongLines(unittest.TestCase):
    def test_250_calls(self):
        calls = [begin(2, 1000, 64, 4096), join(0, 0)] + [accept(0, 0, k) for k in range(124)]
        calls += [air(0, 0) for k in range(124)]
        self.assertEqual(len(calls), 250)
        expected = [[0], [1]] + [[1, k + 1] for k in range(124)] + [[k + 1, k + 1] for k in range(124)]
        self.assertEqual(ask(*calls), expected)

    def test_250_calls_of_the_greatest_length(self):
        calls = [begin(1, 1, 1, 1)] * 150 + [air(0, 0, 0, 0)] * 100
        self.assertEqual(len(flat(calls)), 1250)
        self.assertEqual(ask(*calls), [[0]] * 150 + [[-6]] * 100)

    def test_a_station_that_roams_over_250_calls(self):
        # Four calls a move: it joins the other point, and take, give and have are brought.
        calls = [begin(2, 1000, 64, 10), join(0, 0), accept(0, 0, 5)]
        expected = [[0], [1], [1, 1]]
        for move in range(61):
            calls += [join(0, (move + 1) % 2), deliver(0), deliver(0), deliver(0)]
            expected += [[move + 2], [1], [1], [0]]
        calls += [air(1, 0), air(1, 0)]
        expected += [[1, 1], [-9]]
        self.assertEqual(len(calls), 249)
        self.assertEqual(ask(*calls), expected)


class NotBegun(unittest.TestCase):
    def test_every_other_call_is_refused(self):
        for call in OTHERS:
            self.assertEqual(ask(call), [[-1]], call)

    def test_it_is_told_ahead_of_a_wrong_argument(self):
        for call in OTHERS:
            for wrong in (LEAST, -1, 64, GREATEST):
                self.assertEqual(ask((call[0],) + (wrong,) * (len(call) - 1)), [[-1]], call)

    def test_a_refused_begin_begins_nothing(self):
        self.assertEqual(ask(begin(0), join(0, 0), begin(1), join(0, 0)), [[-2], [-1], [0], [1]])

    def test_it_changes_nothing(self):
        self.assertEqual(snapshot(play(*OTHERS)), snapshot(play()))


if __name__ == "__main__":
    unittest.main()
