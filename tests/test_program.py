"""Points 301, 402, 404, 405, 504 to 508 and 603 to 606 over the whole program, behind the calls of sessions."""

import itertools
import random
import unittest

from cases import (Case, large_samples, least_of_all_roads, least_sums, no_places, prices_of, small_samples,
                   some_edits, some_net, some_order, ways_in_order)
from overpasses.answers.papers import check_answer, paper
from overpasses.answers.roads import answer_road
from overpasses.answers.search import answer, answers
from overpasses.best.roads import best_roads
from overpasses.best.turns import answer_with_turns, check_turns
from overpasses.edits.session import Session
from overpasses.errors import BadPrice, NoLink, NoPlace, NothingToUndo
from overpasses.filling.fill import check_filling, fill
from overpasses.labels.labels import label_answer, labels
from overpasses.labels.prices import slack_ways, true_prices, without_slack
from overpasses.nets.net import road_sum
from overpasses.nets.texts import read_net, write_net
from overpasses.pairs.orders import greedy_order


class Program(Case):
    def sums_of(self, net):
        """The least prices of all roads; of small nets by the roads themselves."""
        if net[0] > 5:
            return least_sums(net)
        return {(s, t): least_of_all_roads(net, s, t) for s, t in itertools.product(range(net[0]), repeat=2)}

    def is_right(self, net, order, rows, places):
        """All that the program tells of a net and a filling agrees with all roads of the net."""
        self.assertEqual(rows, fill(net, order))
        self.assertTrue(check_filling(net, order, rows))
        sums = self.sums_of(net)
        self.assertEqual(true_prices(order, rows), {way: sums[way] for way in ways_in_order(rows)})
        slack = [way for way, price in ways_in_order(rows).items() if price is None or price > sums[way]]
        self.assertEqual(slack_ways(order, rows), slack)
        kept = without_slack(order, rows)
        forward, backward = labels(order, rows)
        for s in places:
            sheet = paper(net, s)
            self.assertEqual(sheet, [sums[s, t] for t in range(net[0])])
            self.assertEqual(answers(order, rows, s, places), [sums[s, t] for t in places])
            self.assertEqual(answers(order, kept, s, places), [sums[s, t] for t in places])
            for t in places:
                number = sums[s, t]
                self.assertEqual(answer(order, rows, s, t)[0], number)
                self.assertEqual(answer(order, kept, s, t)[0], number)
                self.assertEqual(label_answer(forward[s], backward[t]), number)
                for road in (answer_road(order, rows, s, t), answer_road(order, kept, s, t)):
                    self.assertEqual(None if road is None else road_sum(net, road), number)
                    self.assertTrue(check_answer(net, s, t, number, road, sheet))
            self.needs_each_entry(s, forward[s], backward)
            self.needs_each_entry(s, backward[s], forward)

    def needs_each_entry(self, place, label, others):
        for k, (x, price) in enumerate(label):
            self.assertEqual(label_answer(label, others[x]), price)
            self.assertNotEqual(label_answer(label[:k] + label[k + 1:], others[x]), price)

    def a_call(self, rng, session):
        """Calls the session, checks the changes, and returns the session that goes on."""
        before = ways_in_order(session.filling())
        if rng.random() < 0.2:
            return session.copy()
        if rng.random() < 0.3:
            try:
                changes = session.undo()
            except NothingToUndo as error:
                self.assertEqual(error.at, 0)
                changes = []
        elif rng.random() < 0.5:
            changes = session.edit_all(some_edits(rng, session.net(), rng.choice([0, 2, 4])))
        else:
            changes = []
            for edit in some_edits(rng, session.net(), 1):
                changes = session.edit(*edit)
        after = ways_in_order(session.filling())
        self.assertEqual(changes, [(*way, before[way], after[way]) for way in before if before[way] != after[way]])
        self.assertLessEqual({change[:2] for change in changes}, set(session.looked()))
        return session

    def test_sessions_of_small_nets(self):
        rng = random.Random(151)
        for net, order in small_samples(152, 210):
            session = Session(net, order)
            for _ in range(5):
                session = self.a_call(rng, session)
                self.is_right(session.net(), order, session.filling(), list(range(net[0])))

    def test_sessions_of_eight_places(self):
        rng = random.Random(153)
        for share in (0.2, 0.3, 0.5, 0.9):
            net, order = some_net(rng, 8, share, [1, 2, 3, 4, None]), some_order(rng, 8)
            session = Session(net, order)
            for _ in range(8):
                session = self.a_call(rng, session)
                self.is_right(session.net(), order, session.filling(), list(range(8)))

    def test_sessions_of_large_nets(self):
        rng = random.Random(154)
        for net, order in large_samples(155):
            for one in (order, greedy_order(net)):
                session = Session(net, one)
                for _ in range(3):
                    session = self.a_call(rng, session)
                self.is_right(session.net(), one, session.filling(), order[::6])

    def test_all_is_taken_back(self):
        rng = random.Random(156)
        for net, order in small_samples(157, 70):
            session = Session(net, order)
            for edit in some_edits(rng, net, 6):
                session.edit(*edit)
            for _ in range(6 if net[1] else 0):
                session.undo()
            self.assertEqual((session.net(), session.filling()), (net, fill(net, order)))
            self.fails(NothingToUndo, 0, session.undo)
            self.is_right(session.net(), order, session.filling(), list(range(net[0])))

    def test_the_best_road_is_an_answer(self):
        for net, order in small_samples(158, 140):
            rows = fill(net, order)
            for s, t in itertools.product(range(net[0]), repeat=2):
                number = answer(order, rows, s, t)[0]
                found = best_roads(net, s, t, 1)
                self.assertEqual([total for total, _ in found], [] if number is None else [number])
                for total, road in found:
                    self.assertTrue(check_answer(net, s, t, total, road, paper(net, s)))
                told = answer_with_turns(net, {}, s, t)
                self.assertEqual(told[:2], found[0] if found else (None, None))
                self.assertTrue(check_turns(net, {}, s, t, told))

    def test_from_a_text_to_an_answer(self):
        net = read_net("places 5\n0 1 2 9\n0 2 3 1\n1 3 4 5\n2 3 4 -\n3 4 - 2\n")
        order = greedy_order(net)
        session = Session(net, order)
        self.gives((6, [0, 1, 3]), lambda: (answer(order, session.filling(), 0, 3)[0],
                                            answer_road(order, session.filling(), 0, 3)))
        session.edit_all([(1, 3, None), (3, 4, 1)])
        self.assertEqual(write_net(session.net()), "places 5\n0 1 2 9\n0 2 3 1\n1 3 - 5\n2 3 4 -\n3 4 1 2\n")
        self.assertEqual(answer_road(order, session.filling(), 0, 4), [0, 2, 3, 4])
        self.assertEqual(answers(order, session.filling(), 0, [3, 4, 0, 4]), [7, 8, 0, 8])
        session.undo()
        self.assertEqual(session.net(), net)
        self.assertEqual(answers(order, session.filling(), 0, [3, 4, 0, 4]), [6, None, 0, None])

    def test_the_errors_of_one_session_do_not_count(self):
        for net, order in small_samples(159, 70):
            session = Session(net, order)
            for (a, b), price in itertools.product(prices_of(net), [0, -1, 10 ** 9]):
                self.fails(BadPrice, 0, session.edit, a, b, price)
            for bad in no_places(net[0]):
                self.fails(NoLink, 0, session.edit, bad, 0, 1)
                self.fails(NoPlace, bad, answer, order, session.filling(), 0, bad)
            self.is_right(net, order, session.filling(), list(range(net[0])))


if __name__ == "__main__":
    unittest.main()
