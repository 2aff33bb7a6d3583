"""Points 401 to 405, and points 1 to 4 for overpasses.edits.session."""

import copy
import itertools
import random
import unittest

from cases import (HUGE, TOP, Case, filling_by_definition, full, kinds, large_samples, line, lower_than, no_places,
                   pairs_by_definition, prices_of, small_samples, some_edits, spoil, star, ways_in_order)
from overpasses.edits.session import Session
from overpasses.errors import BadPrice, NoLink, NoPair, NothingToUndo
from overpasses.filling.fill import fill
from overpasses.filling.ways import price_of, road_of

# 0 is lower than 1 and 2, which are a link of their own and, with 3, a triangle. No link joins 0 and 3.
NET = (4, [(0, 1, 3, 3), (0, 2, 5, 7), (1, 2, 20, 9), (1, 3, 1, 1), (2, 3, 4, None)])
ORDER = [0, 1, 2, 3]
ROWS = [(0, 1, 3, 3, None, None), (0, 2, 5, 7, None, None), (1, 2, 8, 9, 0, None), (1, 3, 1, 1, None, None),
        (2, 3, 4, 9, None, 1)]
BAD_PRICES = [0, -1, -TOP, TOP + 1, 2 ** 32 - 1, HUGE, -HUGE]


class Slow:
    """A session by the definitions: it fills in anew after each call."""

    def __init__(self, net, order, filled=fill):
        self.net, self.order, self.filled = net, order, filled
        self.rows = filled(net, order)
        self.before = []
        self.looked = []

    def edit_all(self, edits):
        self.before.append((self.net, [(a, b) for a, b, _ in edits]))
        return self.now_is(with_edits(self.net, edits), [(a, b) for a, b, _ in edits])

    def undo(self):
        return self.now_is(*self.before.pop())

    def now_is(self, net, edited):
        old = ways_in_order(self.rows)
        self.net = net
        self.rows = self.filled(net, self.order)
        new = ways_in_order(self.rows)
        changed = {way for way in old if old[way] != new[way]}
        self.looked = []
        for x, y in new:
            lower = lower_than(self.order, x, y)
            if (x, y) in edited or any((x, w) in changed or (w, y) in changed for w in lower
                                       if (x, w) in new and (w, y) in new):
                self.looked.append((x, y))
        return [(*way, old[way], new[way]) for way in new if way in changed]


def with_edits(net, edits):
    prices = prices_of(net)
    for a, b, value in edits:
        prices[a, b] = value
    return (net[0], [(a, b, prices[a, b], prices[b, a]) for a, b, _, _ in net[1]])


class SessionCase(Case):
    def state(self, session):
        """All that a session tells, but for what can be taken back."""
        return kinds([session.net(), session.filling(), session.looked()])

    def is_now(self, session, net, rows, looked):
        self.gives(net, session.net)
        self.gives(rows, session.filling)
        self.gives(looked, session.looked)

    def changes(self, expected, call, *args):
        """The call returns these changes, and neither what it was passed nor what it returns is of account later."""
        before = copy.deepcopy(args)
        found = call(*args)
        self.assertEqual(kinds(found), kinds(expected), args)
        self.assertEqual(args, before)
        session = call.__self__
        state = self.state(session)
        spoil(found)
        for part in args:
            spoil(part)
        self.assertEqual(self.state(session), state)

    def refuses(self, error, at, call, *args):
        """The call raises this error, and the session stays as it was."""
        session = call.__self__
        state = self.state(session)
        self.fails(error, at, call, *args)
        self.assertEqual(self.state(session), state)


class Edit(SessionCase):
    def test_the_beginning(self):
        self.is_now(Session(NET, ORDER), NET, ROWS, [])
        self.is_now(Session((1, []), [0]), (1, []), [], [])
        self.is_now(Session((3, []), [2, 0, 1]), (3, []), [], [])
        for net, order in itertools.chain(small_samples(51, 70), large_samples(52)):
            self.is_now(Session(net, order), net, fill(net, order), [])

    def test_a_literal_net(self):
        session = Session(NET, ORDER)
        self.changes([(1, 0, 3, 2), (1, 2, 8, 7), (3, 2, 9, 8)], session.edit, 1, 0, 2)
        self.is_now(session, (4, [(0, 1, 3, 2), (0, 2, 5, 7), (1, 2, 20, 9), (1, 3, 1, 1), (2, 3, 4, None)]),
                    [(0, 1, 3, 2, None, None), (0, 2, 5, 7, None, None), (1, 2, 7, 9, 0, None),
                     (1, 3, 1, 1, None, None), (2, 3, 4, 8, None, 1)],
                    [(1, 0), (1, 2), (3, 2)])

    def test_the_same_price(self):
        for (x, y), price in prices_of(NET).items():
            session = Session(NET, ORDER)
            self.changes([], session.edit, x, y, price)
            self.is_now(session, NET, ROWS, [(x, y)])

    def test_a_way_shut_and_opened_again(self):
        session = Session(NET, ORDER)
        self.changes([(0, 2, 5, None), (1, 2, 8, 20), (3, 2, 9, 21)], session.edit, 0, 2, None)
        self.assertEqual(session.filling()[2], (1, 2, 20, 9, None, None))
        self.changes([(1, 2, 20, None), (3, 2, 21, None)], session.edit, 1, 2, None)
        self.changes([], session.edit, 1, 2, None)
        self.gives([(1, 2)], session.looked)
        self.changes([(0, 2, None, 5), (1, 2, None, 8), (3, 2, None, 9)], session.edit, 0, 2, 5)
        self.changes([], session.edit, 1, 2, 20)
        self.is_now(session, NET, ROWS, [(1, 2)])

    def test_the_least_and_the_greatest_price(self):
        for a, b in ((0, 1), (1, 0)):
            session = Session((2, [(0, 1, 5, 5)]), [1, 0])
            self.changes([(a, b, 5, TOP)], session.edit, a, b, TOP)
            self.changes([(a, b, TOP, 1)], session.edit, a, b, 1)
            self.changes([(a, b, 1, TOP)], session.edit, a, b, TOP)

    def test_where_only_a_middle_changes(self):
        links = [(0, 3, 2, 2), (0, 4, 2, 2), (1, 3, 1, 1), (1, 4, 3, 3), (3, 4, 9, 9)]
        session = Session((5, links), [0, 1, 2, 3, 4])
        self.assertEqual(session.filling()[-1], (3, 4, 4, 4, 0, 0))
        self.changes([], session.edit, 3, 4, 4)
        self.assertEqual(session.filling()[-1], (3, 4, 4, 4, None, 0))
        self.changes([], session.edit, 3, 4, None)
        self.assertEqual(session.filling()[-1], (3, 4, 4, 4, 0, 0))
        self.gives([(3, 4)], session.looked)
        # The price of the way (3, 0) changes, that of (3, 4) does not, but for its middle.
        self.changes([(3, 0, 2, 3)], session.edit, 3, 0, 3)
        self.assertEqual(session.filling()[-1], (3, 4, 4, 4, 1, 0))
        self.gives([3, 1, 4], session.road, 3, 4)
        self.gives([(3, 0), (3, 4)], session.looked)
        self.changes([(3, 0, 3, 2)], session.edit, 3, 0, 2)
        self.assertEqual(session.filling()[-1], (3, 4, 4, 4, 0, 0))

    def test_either_way_of_each_link(self):
        for net, order in small_samples(53, 140):
            for (a, b), value in itertools.product(prices_of(net), [1, 2, 4, TOP, None]):
                slow = Slow(net, order)
                session = Session(net, order)
                self.assertEqual(session.edit(a, b, value), slow.edit_all([(a, b, value)]))
                self.assertEqual(session.net(), slow.net)
                self.assertEqual(session.filling(), slow.rows)
                self.assertEqual(session.looked(), slow.looked)

    def test_many_edits_of_large_nets(self):
        rng = random.Random(54)
        for net, order in large_samples(55):
            slow = Slow(net, order)
            session = Session(net, order)
            for edit in some_edits(rng, net, 12):
                self.changes(slow.edit_all([edit]), session.edit, *edit)
                self.is_now(session, slow.net, slow.rows, slow.looked)

    def test_the_order_of_the_changes(self):
        # 0 is the lowest place of a star, so all ways from a place to the others change with the way to 0.
        session = Session(star(4), [0, 3, 1, 2])
        self.changes([(3, 0, 30, 50), (3, 1, 31, 51), (3, 2, 32, 52)], session.edit, 3, 0, 50)
        self.changes([(0, 1, 1, 5), (3, 1, 51, 55), (2, 1, 21, 25)], session.edit, 0, 1, 5)
        self.gives([(0, 1), (3, 1), (2, 1)], session.looked)
        session = Session(star(4), [0, 3, 1, 2])
        changes = session.edit_all([(0, 2, 9), (2, 0, 9), (1, 0, 5), (0, 1, 5)])
        ways = [(0, 1), (1, 0), (0, 2), (2, 0), (3, 1), (1, 3), (3, 2), (2, 3), (1, 2), (2, 1)]
        self.assertEqual([change[:2] for change in changes], ways)
        self.gives(ways, session.looked)

    def test_no_link(self):
        session = Session(NET, ORDER)
        session.edit(1, 0, 2)
        for price in [5, 1, None, *BAD_PRICES]:
            for a, b in [(0, 3), (3, 0), (0, 0), (3, 3)]:
                self.refuses(NoLink, 0, session.edit, a, b, price)
        for bad in no_places(4):
            for price in [5, None, 0]:
                self.refuses(NoLink, 0, session.edit, bad, 1, price)
                self.refuses(NoLink, 0, session.edit, 1, bad, price)
                self.refuses(NoLink, 0, session.edit, bad, bad, price)
        # A pair without a link has no price that could be set.
        session = Session(star(4), [0, 1, 2, 3])
        for a, b in itertools.permutations([1, 2, 3], 2):
            self.refuses(NoLink, 0, session.edit, a, b, 5)
        self.refuses(NoLink, 0, Session((1, []), [0]).edit, 0, 0, 5)

    def test_bad_prices(self):
        session = Session(NET, ORDER)
        session.edit(1, 0, 2)
        for price in BAD_PRICES:
            for a, b in prices_of(NET):
                self.refuses(BadPrice, 0, session.edit, a, b, price)

    def test_an_error_leaves_nothing_to_take_back(self):
        session = Session(NET, ORDER)
        self.fails(NoLink, 0, session.edit, 0, 3, 5)
        self.fails(BadPrice, 0, session.edit, 0, 1, 0)
        self.fails(BadPrice, 1, session.edit_all, [(0, 1, 5), (0, 1, 0)])
        self.refuses(NothingToUndo, 0, session.undo)


class PriceAndRoad(SessionCase):
    def no_pair(self, session, x, y):
        self.refuses(NoPair, 0, session.price, x, y)
        self.refuses(NoPair, 0, session.road, x, y)

    def test_after_each_call(self):
        rng = random.Random(56)
        for net, order in small_samples(57, 60):
            session = Session(net, order)
            for edit in some_edits(rng, net, 4):
                session.edit(*edit)
                rows = fill(session.net(), order)
                known = ways_in_order(rows)
                for x, y in itertools.product(range(net[0]), repeat=2):
                    if (x, y) in known:
                        self.gives(price_of(rows, x, y), session.price, x, y)
                        self.gives(road_of(rows, x, y), session.road, x, y)
                    else:
                        self.no_pair(session, x, y)

    def test_a_literal_net(self):
        session = Session(NET, ORDER)
        self.gives(9, session.price, 3, 2)
        self.gives([3, 1, 0, 2], session.road, 3, 2)
        session.edit(1, 2, 6)
        self.gives(7, session.price, 3, 2)
        self.gives([3, 1, 2], session.road, 3, 2)
        session.edit(3, 1, None)
        self.gives(None, session.price, 3, 2)
        self.gives(None, session.road, 3, 2)

    def test_no_pair(self):
        session = Session(NET, ORDER)
        for x, y in [(0, 3), (3, 0), (0, 0), (2, 2), (-1, 0), (0, -1), (4, 1), (1, 4), (HUGE, -HUGE)]:
            self.no_pair(session, x, y)


class EditAll(SessionCase):
    def test_none(self):
        session = Session(NET, ORDER)
        session.edit(1, 0, 2)
        net, rows = session.net(), session.filling()
        self.changes([], session.edit_all, [])
        self.is_now(session, net, rows, [])

    def test_one(self):
        for a, b in prices_of(NET):
            for price in [1, 2, 50, None]:
                session, other = Session(NET, ORDER), Session(NET, ORDER)
                self.changes(other.edit(a, b, price), session.edit_all, [(a, b, price)])
                self.assertEqual(self.state(session), self.state(other))

    def test_several(self):
        session = Session(NET, ORDER)
        # The way (1, 2) is looked at, though it costs the same over 0 as before.
        self.changes([(1, 0, 3, 4), (0, 2, 5, 4)], session.edit_all, [(0, 2, 4), (1, 0, 4)])
        self.gives([(1, 0), (0, 2), (1, 2)], session.looked)
        self.assertEqual(session.net(), with_edits(NET, [(0, 2, 4), (1, 0, 4)]))

    def test_the_same_way_several_times(self):
        session = Session(NET, ORDER)
        self.changes([(0, 1, 3, 9)], session.edit_all, [(0, 1, 4), (0, 1, None), (0, 1, 9)])
        self.gives(9, session.price, 0, 1)
        self.gives([(0, 1), (2, 1)], session.looked)
        # A price that comes back is no change, but the way has been looked at.
        self.changes([], session.edit_all, [(0, 1, 1), (2, 1, 1), (0, 1, 9), (2, 1, 9)])
        self.gives([(0, 1), (2, 1)], session.looked)
        self.changes([(0, 1, 9, 3)], session.edit_all, [(0, 1, 7), (0, 1, 3)])
        self.is_now(session, NET, ROWS, [(0, 1), (2, 1)])

    def test_any_edits(self):
        rng = random.Random(58)
        for net, order in itertools.chain(small_samples(59, 140), large_samples(60)):
            slow = Slow(net, order, filling_by_definition if net[0] < 6 else fill)
            session = Session(net, order)
            for count in (2, 0, 5, 1, 9):
                edits = some_edits(rng, session.net(), count)
                self.changes(slow.edit_all(list(edits)), session.edit_all, edits)
                self.is_now(session, slow.net, slow.rows, slow.looked)

    def test_the_first_edit_with_an_error(self):
        session = Session(NET, ORDER)
        session.edit(1, 0, 2)
        good = (0, 1, 50)
        wrong = [((0, 3, 5), NoLink), ((0, 1, 0), BadPrice), ((4, 0, 0), NoLink), ((2, 3, TOP + 1), BadPrice)]
        for bad, error in wrong:
            for index in range(4):
                self.refuses(error, index, session.edit_all, [good] * index + [bad])
                self.refuses(error, index, session.edit_all, [good] * index + [bad, good, (0, 3, 5), (0, 1, -1)])
        for bad in no_places(4):
            self.refuses(NoLink, 1, session.edit_all, [good, (bad, 0, 5)])
            self.refuses(NoLink, 1, session.edit_all, [good, (0, bad, 5)])
        for bad in BAD_PRICES:
            self.refuses(BadPrice, 2, session.edit_all, [good, good, (1, 3, bad)])
        # An earlier edit's price comes ahead of a later edit's link.
        self.refuses(BadPrice, 0, session.edit_all, [(0, 1, 0), (0, 3, 5)])
        self.refuses(NoLink, 0, session.edit_all, [(0, 3, 5), (0, 1, 0)])
        self.changes([(1, 0, 2, 3), (1, 2, 7, 8), (3, 2, 8, 9)], session.undo)
        self.refuses(NothingToUndo, 0, session.undo)


class Undo(SessionCase):
    def test_nothing(self):
        session = Session(NET, ORDER)
        self.refuses(NothingToUndo, 0, session.undo)
        session.edit(1, 0, 2)
        session.undo()
        self.refuses(NothingToUndo, 0, session.undo)
        self.gives([(1, 0), (1, 2), (3, 2)], session.looked)
        self.refuses(NothingToUndo, 0, Session((1, []), [0]).undo)

    def test_an_edit(self):
        session = Session(NET, ORDER)
        session.edit(1, 0, 2)
        self.changes([(1, 0, 2, 3), (1, 2, 7, 8), (3, 2, 8, 9)], session.undo)
        self.is_now(session, NET, ROWS, [(1, 0), (1, 2), (3, 2)])

    def test_an_edit_that_left_the_price(self):
        session = Session(NET, ORDER)
        session.edit(0, 2, 5)
        session.edit(1, 3, 1)
        self.changes([], session.undo)
        self.is_now(session, NET, ROWS, [(1, 3)])
        self.changes([], session.undo)
        self.is_now(session, NET, ROWS, [(0, 2)])
        self.refuses(NothingToUndo, 0, session.undo)

    def test_edits_together(self):
        session = Session(NET, ORDER)
        session.edit(3, 1, None)
        before = session.net(), session.filling()
        session.edit_all([(0, 1, 4), (1, 3, 7), (0, 1, None), (0, 1, 9), (2, 3, 4)])
        self.changes([(0, 1, 9, 3), (1, 3, 7, 1)], session.undo)
        # (2, 1) and (0, 1) are one above the other; (2, 3) stays at the same price.
        self.is_now(session, *before, [(0, 1), (2, 1), (1, 3), (2, 3)])

    def test_the_empty_list_of_edits(self):
        session = Session(NET, ORDER)
        session.edit(1, 0, 2)
        rows = session.filling()
        session.edit_all([])
        self.changes([], session.undo)
        self.gives([], session.looked)
        self.gives(rows, session.filling)
        self.changes([(1, 0, 2, 3), (1, 2, 7, 8), (3, 2, 8, 9)], session.undo)
        self.refuses(NothingToUndo, 0, session.undo)

    def test_several_calls_in_a_row(self):
        rng = random.Random(61)
        for net, order in itertools.chain(small_samples(62, 140), large_samples(63)):
            session = Session(net, order)
            states = []
            for count in (1, 0, 3, 1, 6):
                states.append((session.net(), session.filling()))
                session.edit_all(some_edits(rng, net, count))
            for state in states[::-1]:
                session.undo()
                self.assertEqual((session.net(), session.filling()), state)
            self.refuses(NothingToUndo, 0, session.undo)

    def test_mixed_with_further_edits(self):
        rng = random.Random(64)
        taken_back = refused = 0
        for net, order in itertools.chain(small_samples(65, 210), large_samples(66)):
            slow = Slow(net, order)
            session = Session(net, order)
            for _ in range(12):
                if rng.random() < 0.5:
                    edits = some_edits(rng, session.net(), rng.choice([0, 1, 1, 2, 4]))
                    self.changes(slow.edit_all(list(edits)), session.edit_all, edits)
                elif slow.before:
                    self.changes(slow.undo(), session.undo)
                    taken_back += 1
                else:
                    self.refuses(NothingToUndo, 0, session.undo)
                    refused += 1
                self.is_now(session, slow.net, slow.rows, slow.looked)
        self.assertGreater(taken_back, 300)
        self.assertGreater(refused, 100)


class Looked(SessionCase):
    def test_a_way_of_an_edit_is_listed_once(self):
        session = Session(star(4), [0, 1, 2, 3])
        session.edit_all([(0, 1, 9), (0, 1, 8), (1, 0, 7), (0, 1, 7)])
        # The ways between 2 and 3 have the lower place 1, whose ways have changed.
        ways = [(0, 1), (1, 0), (1, 2), (2, 1), (1, 3), (3, 1), (2, 3), (3, 2)]
        self.gives(ways, session.looked)
        session.undo()
        self.gives(ways, session.looked)

    def test_a_way_over_a_shut_way_is_looked_at(self):
        # From 1 over 0 to 2: the second part stays shut, so that the way does not change.
        session = Session((3, [(0, 1, 3, 3), (0, 2, None, 7)]), [0, 1, 2])
        self.changes([(1, 0, 3, 2)], session.edit, 1, 0, 2)
        self.gives([(1, 0), (1, 2)], session.looked)

    def test_no_way_beyond_one_that_stays(self):
        # The way (1, 2) stays at 2, so the way (1, 3) over 2 is not looked at.
        links = [(0, 1, 5, 5), (0, 2, 5, 5), (1, 2, 2, 2), (1, 3, 9, 9), (2, 3, 1, 1)]
        session = Session((4, links), [0, 1, 2, 3])
        self.changes([(1, 0, 5, 4)], session.edit, 1, 0, 4)
        self.gives([(1, 0), (1, 2)], session.looked)

    def test_after_an_error_it_is_that_of_the_last_call(self):
        session = Session(NET, ORDER)
        self.refuses(NoLink, 0, session.edit, 0, 3, 5)
        self.gives([], session.looked)
        session.edit(1, 0, 2)
        for call, *args in [(session.edit, 0, 3, 5), (session.edit, 0, 1, 0), (session.edit_all, [(0, 1, 0)])]:
            with self.assertRaises(ValueError):
                call(*args)
            self.gives([(1, 0), (1, 2), (3, 2)], session.looked)

    def test_no_other_call_looks_at_ways(self):
        session = Session(NET, ORDER)
        session.edit(1, 0, 2)
        session.net(), session.filling(), session.price(1, 2), session.road(1, 2), session.copy()
        self.gives([(1, 0), (1, 2), (3, 2)], session.looked)


class Copies(SessionCase):
    def test_the_same_state(self):
        session = Session(NET, ORDER)
        self.is_now(session.copy(), NET, ROWS, [])
        session.edit(1, 0, 2)
        session.edit_all([(0, 2, None), (0, 1, 9)])
        other = session.copy()
        self.assertEqual(self.state(other), self.state(session))
        self.assertIsNot(other, session)
        self.assertIs(type(other), Session)

    def test_both_go_their_own_ways(self):
        session = Session(NET, ORDER)
        session.edit(1, 0, 2)
        other = session.copy()
        state = self.state(session)
        other.edit(0, 1, 9)
        self.assertEqual(self.state(session), state)
        state = self.state(other)
        self.changes([(1, 0, 2, 3), (1, 2, 7, 8), (3, 2, 8, 9)], session.undo)
        self.refuses(NothingToUndo, 0, session.undo)
        self.assertEqual(self.state(other), state)
        self.changes([(0, 1, 9, 3)], other.undo)
        self.changes([(1, 0, 2, 3), (1, 2, 7, 8), (3, 2, 8, 9)], other.undo)
        self.refuses(NothingToUndo, 0, other.undo)

    def test_taking_back_in_the_copy_first(self):
        session = Session(NET, ORDER)
        session.edit_all([(1, 0, 2), (0, 2, 1)])
        session.edit(1, 3, 4)
        other = session.copy()
        for one in (other, session, other.copy()):
            if one.net() != NET:
                one.undo()
                one.undo()
            self.refuses(NothingToUndo, 0, one.undo)
            self.gives(ROWS, one.filling)

    def test_a_copy_of_a_beginning_has_nothing_to_take_back(self):
        session = Session(NET, ORDER)
        other = session.copy()
        session.edit(1, 0, 2)
        self.refuses(NothingToUndo, 0, other.undo)
        self.gives([], other.looked)

    def test_many_copies(self):
        rng = random.Random(67)
        for net, order in small_samples(68, 140):
            sessions = [(Session(net, order), Slow(net, order))]
            for _ in range(10):
                session, slow = rng.choice(sessions)
                if rng.random() < 0.3:
                    sessions.append((session.copy(), copy.deepcopy(slow)))
                elif rng.random() < 0.4 and slow.before:
                    self.changes(slow.undo(), session.undo)
                else:
                    edits = some_edits(rng, net, 2)
                    self.changes(slow.edit_all(list(edits)), session.edit_all, edits)
                for one, other in sessions:
                    self.is_now(one, other.net, other.rows, other.looked)


class Arguments(SessionCase):
    def test_the_net_and_the_order_are_copied(self):
        for net, order in [(NET, ORDER), (line(5), [3, 0, 4, 1, 2]), (full(6), list(range(6)))]:
            given_net, given_order = copy.deepcopy(net), list(order)
            session = Session(given_net, given_order)
            self.assertEqual((given_net, given_order), (net, order))
            given_net[1].clear()
            given_order.reverse()
            self.is_now(session, net, fill(net, order), [])
            a, b = net[1][0][:2]
            slow = Slow(net, order)
            self.changes(slow.edit_all([(a, b, 1)]), session.edit, a, b, 1)
            self.is_now(session.copy(), slow.net, slow.rows, slow.looked)

    def test_two_sessions_of_one_net(self):
        net, order = copy.deepcopy(NET), list(ORDER)
        one, other = Session(net, order), Session(net, order)
        one.edit(1, 0, 2)
        self.is_now(other, NET, ROWS, [])
        self.refuses(NothingToUndo, 0, other.undo)

    def test_the_pairs_stay(self):
        rng = random.Random(69)
        for net, order in small_samples(70, 70):
            session = Session(net, order)
            session.edit_all([(a, b, None) for a, b in prices_of(net)])
            found = pairs_by_definition(net, order)
            self.gives([(u, v, None, None, None, None) for u, v in found], session.filling)
            session.edit_all(some_edits(rng, net, 5))
            self.assertEqual([row[:2] for row in session.filling()], found)


if __name__ == "__main__":
    unittest.main()
