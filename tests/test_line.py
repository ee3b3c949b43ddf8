"""A line of calls as the interface takes it and gives its answers back."""

import contextlib
import io
import time
import unittest

from roamair.world import answers
from tests.helper import (
    GREATEST, LEAST, Reader, accept, air, ask, begin, channels, deliver, double, flat, flow, give_up, hears, join,
    leave, lose, play, power, read_message, retry, sleep, snapshot, tell_bag, tell_beacon, tell_got, tell_legs,
    tell_station, wake,
)

# One call of each place but begin, all in range once it's begun with two points and a message.
OTHERS = [
    power(0, 0), join(0, 1), leave(0), sleep(0), wake(0), accept(0, 0, 5), air(0, 0, 0, 0), retry(0, 0),
    give_up(0, 0), deliver(0), lose(0), double(0), flow(1), tell_station(0), tell_got(0), tell_legs(1, 0),
    tell_beacon(1), tell_bag(), hears(0, 1, 5), channels(2),
]

# A line with each place in it; only its last call, which would begin anew, is refused.
ALL_PLACES = [
    begin(2, 9, 9, 9), join(0, 0), accept(0, 0, 7), accept(0, 0, 8), air(0, 0), sleep(0), wake(0), leave(0),
    join(0, 1), accept(1, 0, 9), double(0), tell_bag(), deliver(0), retry(0, 0), tell_bag(), lose(0), flow(9),
    tell_beacon(1), tell_legs(1, 0), tell_station(0), tell_got(0), power(0, 0), join(1, 1), power(1, 0), power(0, 1),
    join(1, 0), give_up(0, 1), tell_legs(0, 1), hears(0, 1, 6), channels(1), channels(2), begin(0),
]


class TheForm(unittest.TestCase):
    def test_each_answer_has_its_count_ahead(self):
        calls = [0, 2, 5, 5, 5, 2, 7, 1, 6, 1, 7, 99, 7, 1, 7, 0, 0, 3, 7, 3, 7]
        self.assertEqual(answers(calls), [1, 0, 1, 1, 2, 1, 1, 2, 1, 1, 1, 0, 1, -6])

    def test_a_single_call(self):
        self.assertEqual(answers([0, 1, 1, 1, 1]), [1, 0])
        self.assertEqual(answers([3, 0]), [1, -1])

    def test_answers_are_whole_numbers_in_a_list(self):
        for line in ([begin()] + OTHERS, ALL_PLACES):
            told = answers(flat(line))
            self.assertIs(type(told), list)
            self.assertEqual({type(number) for number in told}, {int})

    def test_each_place_answers_in_its_form(self):
        self.assertEqual({call[0] for call in ALL_PLACES}, set(range(21)))
        self.assertEqual(ask(*ALL_PLACES), [
            [0], [1], [1, 1], [1, 2], [1, 1], [0], [0], [0],
            [2], [2, 1], [0], [2, 0, 0, 1, 0, 2, 1, 0, 0, 1, 0, 2, 1], [2], [1],
            [3, 0, 0, 1, 0, 2, 1, 1, 1, 0, 0, 2, 3, 1, 2, 8, 1, 1, 0, 0, 2, 3, 1, 2, 8], [0], [4],
            [1, 0, 2, 1], [1, 2, 1, 0, 0, 4, 2, 2, 8, 3, 9, 0, 1], [2, 1, 1, 1], [1, 7], [0], [1], [0], [0],
            [2], [2], [1, 2, 1, 0, 0, 1, 0, 0, 0], [0], [6, 0, 0], [0, 0, 1], [-2],
        ])

    def test_what_is_handed_in_stays_as_it_was(self):
        for line in ([begin()] + OTHERS, ALL_PLACES, [tell_bag()]):
            calls = flat(line)
            before = list(calls)
            answers(calls)
            self.assertEqual(calls, before)

    def test_what_is_handed_in_is_only_read(self):
        class OnlyRead(list):
            def refuse(self, *anything):
                raise AssertionError("the list was written to")

            append = extend = insert = pop = remove = clear = reverse = sort = refuse
            __setitem__ = __delitem__ = __iadd__ = __imul__ = refuse

        calls = flat(ALL_PLACES)
        self.assertEqual(answers(OnlyRead(calls)), answers(calls))

    def test_the_same_list_twice_is_answered_alike(self):
        calls = flat([begin(2), join(0, 0), accept(0, 0, 9), air(0, 0), power(1, 0), join(0, 1)] + OTHERS)
        self.assertEqual(answers(calls), answers(calls))
        self.assertEqual(answers(flat(ALL_PLACES)), answers(flat(ALL_PLACES)))

    def test_nothing_is_kept_from_one_line_to_the_next(self):
        answers(flat([begin(), join(0, 0), accept(0, 0, 9)]))
        self.assertEqual(ask(join(0, 0)), [[-1]])
        self.assertEqual(ask(begin(), join(0, 0), accept(0, 0, 9)), [[0], [1], [1, 1]])
        answers(flat([begin(2), hears(0, 1, 9)]))
        self.assertEqual(ask(begin(2), channels(1), tell_bag(), tell_legs(0, 0)), [[0], [0, 0, 0], [0], [0]])

    def test_an_answer_given_back_may_be_changed(self):
        calls = flat([begin(), join(0, 0)])
        first = answers(calls)
        first.append(5)
        self.assertEqual(answers(calls), [1, 0, 1, 1])

    def test_nothing_is_printed(self):
        out = io.StringIO()
        with contextlib.redirect_stdout(out), contextlib.redirect_stderr(out):
            answers(flat([begin()] + OTHERS + ALL_PLACES))
        self.assertEqual(out.getvalue(), "")


class LongLines(unittest.TestCase):
    def test_250_calls(self):
        calls = [begin(2, 1000, 64, 4096), join(0, 0)] + [accept(0, 0, k) for k in range(124)]
        calls += [air(0, 0) for k in range(124)]
        self.assertEqual(len(calls), 250)
        expected = [[0], [1]] + [[1, k + 1] for k in range(124)] + [[k + 1, k + 1] for k in range(124)]
        self.assertEqual(ask(*calls), expected)

    def test_250_calls_of_the_greatest_length(self):
        calls = [begin(1, 1, 1, 1)] * 150 + [air(0, 0, 0, 0)] * 100
        self.assertEqual(len(flat(calls)), 1250)
        self.assertEqual(ask(*calls), [[0]] * 150 + [[-6]] * 100)

    def test_a_station_that_roams_over_250_calls(self):
        # Four calls a move: it joins the other point, and take, give and have are brought.
        calls = [begin(2, 1000, 64, 10), join(0, 0), accept(0, 0, 5)]
        expected = [[0], [1], [1, 1]]
        for move in range(61):
            calls += [join(0, (move + 1) % 2), deliver(0), deliver(0), deliver(0)]
            expected += [[move + 2], [1], [1], [0]]
        calls += [air(1, 0), air(1, 0)]
        expected += [[1, 1], [-9]]
        self.assertEqual(len(calls), 249)
        self.assertEqual(ask(*calls), expected)


def give_row(queue):
    return [1, 0, 0, 0, 2, len(queue) + 1, len(queue)] + [number for entry in queue for number in entry]


class InGoodTime(unittest.TestCase):
    """Lines that have much to do. They take a second at most; what's allowed is for a slow machine."""

    def setUp(self):
        self.began = time.process_time()

    def tearDown(self):
        self.assertLess(time.process_time() - self.began, 30)

    def test_250_calls_with_30_bags(self):
        queue = [(k + 1, k * 11) for k in range(50)]
        calls = [begin(1, 1000, 64, 4096), join(0, 0)] + [accept(0, 0, frame) for number, frame in queue]
        calls += [join(0, 0), deliver(0)] + [double(0)] * 166 + [tell_bag()] * 30
        self.assertEqual(len(calls), 250)
        expected = [167] + give_row(queue) * 167
        self.assertEqual(ask(*calls)[-30:], [expected] * 30)

    def test_30_bags_between_the_others(self):
        calls = [begin(2, 1000, 64, 4096), join(0, 0)]
        for k in range(30):
            calls += [accept(k % 2, 0, k), join(0, (k + 1) % 2), tell_bag(), flow(1), retry(k % 2, 0), flow(2), flow(9)]
        calls += [tell_got(0)] * 38
        self.assertEqual(len(calls), 250)
        given = ask(*calls)
        for k in range(30):
            take = [1, 0, k % 2, (k + 1) % 2, 0, k + 2, 0]
            self.assertEqual(given[2 + 7 * k:9 + 7 * k], [[k + 1, 1], [k + 2], take, [1], [1], [2], [2]])
        self.assertEqual(given[-38:], [[0]] * 38)

    def test_many_long_queues_in_30_bags(self):
        # 24 legs of one station at one point, all handed but the last, each with a copy of 73 frames.
        calls = [begin(1, 1000, 64, 4096), join(0, 0)] + [accept(0, 0, k) for k in range(73)]
        for k in range(23):
            calls += [join(0, 0), deliver(k), deliver(k)]
        calls += [retry(0, 0)] * 76 + [tell_bag()] * 30
        self.assertEqual(len(calls), 250)
        given = ask(*calls)
        self.assertEqual(given[-106:-30], [[23]] * 76)
        self.assertEqual([len(told) for told in given[-30:]], [1 + 23 * 4 + 23 * 76 * (7 + 2 * 73)] * 30)
        messages = Reader(given[-1]).rows(read_message)
        self.assertEqual(messages[:23], [("have", 0, 0, k + 2) for k in range(23)])
        queue = tuple((k + 1, k) for k in range(73))
        self.assertEqual(messages[23:], [("give", 0, 0, 0, k + 2, 74, queue) for k in range(23)] * 76)

    def test_a_full_bag_flows(self):
        # 64 legs at one point; all takes but those of join 2 come to a leg that waits.
        calls = [begin(1, 1, 64, 4096)] + [join(0, 0)] * 64 + [retry(0, 0)] * 65 + [double(0), flow(10000)]
        # Of join 2 there are 66: each puts a give, and each of these a have.
        self.assertEqual(ask(*calls)[-2:], [[-10], [4096 + 66 + 66]])

    def test_many_channels_with_every_pair(self):
        for weight in (lambda p, q: 1, lambda p, q: 1000000, lambda p, q: 8 * p + q, lambda p, q: 1000 - 8 * p - q):
            told = [hears(p, q, weight(p, q)) for p in range(8) for q in range(p)]
            for c in range(1, 5):
                calls = [begin(8)] + told + [channels(c)] * 221
                self.assertEqual(len(calls), 250)
                given = ask(*calls)
                self.assertEqual(given[29:], [given[29]] * 221)

    def test_channels_between_pairs_that_change(self):
        told = [hears(p, q, 1) for p in range(8) for q in range(p)]
        calls = [begin(8)] + told
        for k in range(110):
            calls += [hears(k % 7, 7, 1 + k % 3), channels(4)]
        self.assertEqual(len(calls), 249)
        self.assertEqual(ask(*calls)[30], [4, 0, 0, 1, 1, 2, 2, 3, 3])


class NotBegun(unittest.TestCase):
    def test_every_other_call_is_refused(self):
        for call in OTHERS:
            self.assertEqual(ask(call), [[-1]], call)

    def test_it_is_told_ahead_of_a_wrong_argument(self):
        for call in OTHERS:
            for wrong in (LEAST, -1, 64, GREATEST):
                self.assertEqual(ask((call[0],) + (wrong,) * (len(call) - 1)), [[-1]], call)

    def test_a_refused_begin_begins_nothing(self):
        self.assertEqual(ask(begin(0), join(0, 0), begin(1), join(0, 0)), [[-2], [-1], [0], [1]])

    def test_it_changes_nothing(self):
        self.assertEqual(snapshot(play(*OTHERS)), snapshot(play()))


if __name__ == "__main__":
    unittest.main()
