"""Points 23, 24 and 4: the deeds of a house, and what it refuses; points 2, 3 and 5 for what is kept and told."""

import itertools
import random
import unittest

from dosehouse.books import givings_of
from dosehouse.errors import HouseError, NoEntry, Twice, Unsafe
from dosehouse.faults import faults
from dosehouse.house import House

GREAT = 10 ** 9

# Ann gets milk by orders 0 and 3 and honey by order 1, all asked; bob gets milk by order 2, due at 8, 32 and 56.
WORLD = (
    (("ann", 0), ("bob", 4)),
    (("milk", (5, 10), (("kilo", 24, 1, 1),), 2), ("honey", (1,), (("flat", 10, 20), ("ever", 50)), 0)),
    ((0, 1, 3),),
    (
        ("morn", 0, 0, ("up", 1, 0, 60), ("asked", 0), ()),
        ("sweet", 0, 1, ("up", 1, 0, 20), ("asked", 10), ()),
        ("bobs", 1, 0, ("up", 1, 0, 60), ("due", 8, 24, 3, 2, 3), ()),
        ("eve", 0, 0, ("up", 1, 0, 60), ("asked", 0), ()),
    ),
)


def house_with(weights, givings):
    house = House(WORLD)
    for row in weights:
        house.weigh(*row)
    for row in givings:
        house.give(*row)
    return house


class Deeds(unittest.TestCase):

    def check_book(self, house, weights, givings):
        book = house.book()
        self.assertEqual(book, (tuple(weights), tuple(givings)))
        self.assertIs(type(book), tuple)
        for part in book:
            self.assertIs(type(part), tuple)
            for row in part:
                self.assertIs(type(row), tuple)

    def let_by(self, deed, *values):
        self.assertIsNone(deed(*values))

    def refused(self, error, field, told, house, deed, *values):
        before = house.book()
        with self.subTest(deed=deed.__name__, values=values):
            with self.assertRaises(error) as caught:
                deed(*values)
            self.assertIs(type(caught.exception), error)
            self.assertIsInstance(caught.exception, HouseError)
            self.assertEqual(getattr(caught.exception, field), told)
            self.assertIs(type(getattr(caught.exception, field)), type(told))
            self.assertEqual(house.book(), before)

    def twice(self, entry, house, deed, *values):
        self.refused(Twice, "entry", entry, house, deed, *values)

    def no_entry(self, entry, house, deed, *values):
        self.refused(NoEntry, "entry", entry, house, deed, *values)

    def unsafe(self, told, house, deed, *values):
        self.refused(Unsafe, "faults", told, house, deed, *values)


class LetBy(Deeds):

    def test_a_new_house(self):
        self.check_book(House(WORLD), (), ())
        self.check_book(House(((), (), (), ())), (), ())

    def test_weigh_and_unweigh(self):
        house = House(WORLD)
        self.let_by(house.weigh, 1, 5, 70)
        self.let_by(house.weigh, 0, 9, 1)
        self.let_by(house.weigh, 0, 3, 1000000)
        self.let_by(house.weigh, 0, 5, 70)
        self.check_book(house, [(0, 3, 1000000), (0, 5, 70), (0, 9, 1), (1, 5, 70)], [])
        self.let_by(house.unweigh, 0, 5)
        self.check_book(house, [(0, 3, 1000000), (0, 9, 1), (1, 5, 70)], [])
        self.let_by(house.weigh, 0, 5, 71)
        self.check_book(house, [(0, 3, 1000000), (0, 5, 71), (0, 9, 1), (1, 5, 70)], [])

    def test_give_and_strike(self):
        house = house_with([(0, 0, 60)], [])
        self.let_by(house.give, 1, 20, 7)
        self.let_by(house.give, 0, 9, 30)
        self.let_by(house.give, 0, 5, 10)
        self.let_by(house.give, 3, 9, 20)
        self.check_book(house, [(0, 0, 60)], [(0, 5, 10), (0, 9, 30), (1, 20, 7), (3, 9, 20)])
        self.let_by(house.strike, 0, 9)
        self.check_book(house, [(0, 0, 60)], [(0, 5, 10), (1, 20, 7), (3, 9, 20)])
        self.let_by(house.give, 0, 9, 30)
        self.check_book(house, [(0, 0, 60)], [(0, 5, 10), (0, 9, 30), (1, 20, 7), (3, 9, 20)])

    def test_amend(self):
        house = house_with([(0, 0, 60)], [(0, 5, 10), (0, 9, 30)])
        self.let_by(house.amend, 0, 5, 30)
        self.check_book(house, [(0, 0, 60)], [(0, 5, 30), (0, 9, 30)])
        self.let_by(house.amend, 0, 9, 5)
        self.check_book(house, [(0, 0, 60)], [(0, 5, 30), (0, 9, 5)])

    def test_amend_to_the_amount_that_it_had(self):
        house = house_with([(0, 0, 60)], [(0, 5, 30), (0, 9, 30)])
        before = house.book()
        self.let_by(house.amend, 0, 5, 30)
        self.assertEqual(house.book(), before)

    def test_move(self):
        house = house_with([(0, 0, 60)], [(0, 5, 30), (0, 9, 30)])
        self.let_by(house.move, 0, 5, 40)
        self.check_book(house, [(0, 0, 60)], [(0, 9, 30), (0, 40, 30)])
        self.let_by(house.move, 0, 9, 5)
        self.check_book(house, [(0, 0, 60)], [(0, 5, 30), (0, 40, 30)])

    def test_move_to_its_own_hour(self):
        house = house_with([(0, 0, 60), (1, 0, 60)], [(0, 5, 30), (0, 9, 30), (2, 8, 5)])
        before = house.book()
        self.let_by(house.move, 0, 5, 5)
        self.let_by(house.move, 2, 8, 8)
        self.assertEqual(house.book(), before)

    def test_move_within_the_span_of_its_own_due(self):
        house = house_with([(1, 0, 60)], [(2, 6, 5)])
        self.let_by(house.move, 2, 6, 11)
        self.let_by(house.move, 2, 11, 32)
        self.check_book(house, [(1, 0, 60)], [(2, 32, 5)])

    def test_move_to_an_hour_at_which_another_order_s_giving_stands(self):
        house = house_with([(0, 0, 60)], [(0, 5, 30), (3, 9, 30)])
        self.let_by(house.move, 0, 5, 9)
        self.check_book(house, [(0, 0, 60)], [(0, 9, 30), (3, 9, 30)])

    def test_the_same_hour_of_other_guests_and_orders(self):
        house = house_with([(0, 5, 60), (1, 5, 60)], [(0, 8, 5), (2, 8, 5), (3, 8, 5)])
        self.check_book(house, [(0, 5, 60), (1, 5, 60)], [(0, 8, 5), (2, 8, 5), (3, 8, 5)])

    def test_a_giving_that_goes_is_always_let_by(self):
        rows = [(0, 5, 10), (0, 9, 30), (0, 40, 60), (1, 20, 20), (1, 30, 20), (2, 8, 5), (2, 32, 60), (3, 9, 20)]
        for order in itertools.islice(itertools.permutations(rows), 0, 40320, 997):
            house = house_with([(0, 0, 60), (1, 0, 60)], rows)
            for row in order:
                self.let_by(house.strike, row[0], row[1])
            self.check_book(house, [(0, 0, 60), (1, 0, 60)], [])


class Entries(Deeds):

    def setUp(self):
        self.house = house_with([(0, 0, 60), (1, 0, 60)], [(0, 5, 30), (0, 9, 30), (2, 8, 5)])

    def test_weigh_where_one_stands(self):
        self.twice((0, 0), self.house, self.house.weigh, 0, 0, 60)
        self.twice((0, 0), self.house, self.house.weigh, 0, 0, 61)
        self.twice((1, 0), self.house, self.house.weigh, 1, 0, 1)

    def test_unweigh_where_none_stands(self):
        self.no_entry((0, 1), self.house, self.house.unweigh, 0, 1)
        self.no_entry((1, 5), self.house, self.house.unweigh, 1, 5)
        empty = House(WORLD)
        self.no_entry((0, 9), empty, empty.unweigh, 0, 9)

    def test_give_where_one_stands(self):
        self.twice((0, 5), self.house, self.house.give, 0, 5, 30)
        self.twice((0, 5), self.house, self.house.give, 0, 5, 5)
        self.twice((2, 8), self.house, self.house.give, 2, 8, 5)

    def test_strike_where_none_stands(self):
        self.no_entry((0, 6), self.house, self.house.strike, 0, 6)
        self.no_entry((1, 5), self.house, self.house.strike, 1, 5)
        self.no_entry((0, 8), self.house, self.house.strike, 0, 8)

    def test_amend_where_none_stands(self):
        self.no_entry((0, 6), self.house, self.house.amend, 0, 6, 5)
        self.no_entry((3, 5), self.house, self.house.amend, 3, 5, 30)

    def test_move_where_none_stands(self):
        self.no_entry((0, 6), self.house, self.house.move, 0, 6, 7)
        self.no_entry((0, 6), self.house, self.house.move, 0, 6, 6)

    def test_move_to_where_another_stands(self):
        self.twice((0, 9), self.house, self.house.move, 0, 5, 9)
        self.twice((0, 5), self.house, self.house.move, 0, 9, 5)

    def test_no_entry_goes_ahead_of_twice(self):
        self.no_entry((0, 6), self.house, self.house.move, 0, 6, 9)

    def test_twice_goes_ahead_of_unsafe(self):
        self.twice((0, 5), self.house, self.house.give, 0, 5, 7)
        self.twice((0, 5), self.house, self.house.give, 0, 5, -GREAT)
        self.twice((0, 0), self.house, self.house.weigh, 0, 0, 1)
        house = house_with([(1, 0, 60)], [(2, 8, 60), (2, 32, 60)])
        self.twice((2, 32), house, house.move, 2, 8, 32)

    def test_no_entry_goes_ahead_of_unsafe(self):
        self.no_entry((0, 6), self.house, self.house.amend, 0, 6, -1)
        self.no_entry((0, 6), self.house, self.house.move, 0, 6, 0)

    def test_struck_and_unweighed_entries_stand_no_more(self):
        self.house.strike(0, 5)
        self.no_entry((0, 5), self.house, self.house.strike, 0, 5)
        self.no_entry((0, 5), self.house, self.house.amend, 0, 5, 5)
        self.house.move(0, 9, 5)
        self.no_entry((0, 9), self.house, self.house.strike, 0, 9)
        house = house_with([(0, 0, 60)], [])
        house.unweigh(0, 0)
        self.no_entry((0, 0), house, house.unweigh, 0, 0)


class Unsafes(Deeds):

    def setUp(self):
        self.house = house_with([(0, 0, 60), (1, 0, 60)], [(0, 5, 30), (0, 9, 30), (2, 8, 5)])

    def test_give(self):
        self.unsafe([("cap", 0, 0, 0, 28, 65, 60)], self.house, self.house.give, 3, 28, 5)
        self.unsafe([("cap", 0, 0, 0, 29, 65, 60)], self.house, self.house.give, 3, 29, 35)
        self.unsafe([("cap", 0, 0, 0, 9, 65, 60)], self.house, self.house.give, 3, 7, 5)
        self.let_by(self.house.give, 3, 29, 30)

    def test_give_with_each_kind_of_fault(self):
        house = house_with([(1, 0, 60)], [(1, 12, 20), (2, 8, 5)])
        self.unsafe([("astray", 1, 9), ("cap", 0, 1, 0, 12, 21, 20)], house, house.give, 1, 9, 1)
        self.unsafe([("cap", 0, 1, 0, 21, 21, 20)], house, house.give, 1, 21, 1)
        self.unsafe([("gap", 1, 12, 0, 14), ("weight", 0, 14)], house, house.give, 0, 14, 5)
        self.unsafe([("cap", 0, 1, 0, 22, 21, 20), ("most", 1, 22)], house, house.give, 1, 22, 21)
        self.unsafe([("part", 2, 32)], house, house.give, 2, 32, 7)
        self.unsafe([("part", 2, 32)], house, house.give, 2, 32, 0)
        self.unsafe([("part", 2, 32)], house, house.give, 2, 32, -5)
        self.unsafe([("twice", 2, 0)], house, house.give, 2, 9, 5)
        self.unsafe([("weight", 0, 20)], house, house.give, 0, 20, 5)
        self.unsafe([("astray", 2, 5), ("young", 2, 5)], house, house.give, 2, 5, 5)

    def test_amend(self):
        self.unsafe([("cap", 0, 0, 0, 9, 65, 60)], self.house, self.house.amend, 0, 5, 35)
        self.unsafe([("cap", 0, 0, 0, 5, 65, 60), ("cap", 0, 0, 0, 9, 95, 60), ("most", 0, 5)],
                    self.house, self.house.amend, 0, 5, 65)
        self.unsafe([("part", 0, 5)], self.house, self.house.amend, 0, 5, 0)
        self.unsafe([("part", 0, 5)], self.house, self.house.amend, 0, 5, 7)

    def test_move(self):
        house = house_with([(0, 0, 60)], [(0, 5, 30), (0, 29, 60)])
        self.unsafe([("cap", 0, 0, 0, 29, 90, 60)], house, house.move, 0, 5, 6)
        self.unsafe([("young", 0, 1)], house, house.move, 0, 5, 1)
        dues = house_with([(1, 0, 60)], [(2, 8, 5), (2, 32, 5)])
        self.unsafe([("twice", 2, 1)], dues, dues.move, 2, 8, 30)
        self.unsafe([("astray", 2, 12)], dues, dues.move, 2, 8, 12)

    def test_a_weighing_that_comes(self):
        self.unsafe([("cap", 0, 0, 0, 9, 60, 59)], self.house, self.house.weigh, 0, 6, 59)
        self.unsafe([("cap", 0, 0, 0, 5, 30, 29), ("cap", 0, 0, 0, 9, 60, 29)], self.house, self.house.weigh, 0, 5, 29)
        self.let_by(self.house.weigh, 0, 10, 1)
        self.let_by(self.house.weigh, 0, 6, 60)
        self.let_by(self.house.weigh, 1, 6, 5)
        self.unsafe([("cap", 1, 0, 0, 8, 5, 4)], self.house, self.house.weigh, 1, 7, 4)

    def test_a_weighing_that_goes(self):
        self.unsafe([("weight", 0, 5), ("weight", 0, 9)], self.house, self.house.unweigh, 0, 0)
        self.unsafe([("weight", 2, 8)], self.house, self.house.unweigh, 1, 0)
        house = house_with([(0, 0, 30), (0, 8, 60)], [(0, 5, 30), (0, 9, 30)])
        self.unsafe([("cap", 0, 0, 0, 9, 60, 30)], house, house.unweigh, 0, 8)
        self.unsafe([("weight", 0, 5)], house, house.unweigh, 0, 0)
        house.strike(0, 9)
        self.let_by(house.unweigh, 0, 8)

    def test_all_faults_of_the_book_are_told(self):
        self.unsafe([("astray", 1, 9), ("cap", 0, 1, 0, 9, 21, 20), ("gap", 0, 9, 1, 9), ("most", 1, 9)],
                    self.house, self.house.give, 1, 9, 21)

    def test_the_house_goes_on_behind_a_refusal(self):
        self.unsafe([("part", 0, 40)], self.house, self.house.give, 0, 40, 3)
        self.let_by(self.house.give, 0, 40, 5)
        self.check_book(self.house, [(0, 0, 60), (1, 0, 60)], [(0, 5, 30), (0, 9, 30), (0, 40, 5), (2, 8, 5)])


class Kept(Deeds):

    def test_a_told_book_stays(self):
        house = house_with([(0, 0, 60)], [(0, 5, 30)])
        told = house.book()
        house.give(0, 9, 30)
        house.strike(0, 5)
        house.weigh(0, 3, 90)
        self.assertEqual(told, (((0, 0, 60),), ((0, 5, 30),)))

    def test_told_faults_stay_and_are_the_asker_s_own(self):
        house = house_with([(0, 0, 60)], [(0, 5, 30)])
        told = [("cap", 0, 0, 0, 9, 65, 60)]
        with self.assertRaises(Unsafe) as first:
            house.give(0, 9, 35)
        house.strike(0, 5)
        self.assertEqual(first.exception.faults, told)
        house.give(0, 5, 30)
        first.exception.faults.clear()
        self.unsafe(told, house, house.give, 0, 9, 35)

    def test_two_houses_share_nothing(self):
        one = house_with([(0, 0, 60)], [(0, 5, 30)])
        two = House(WORLD)
        self.check_book(two, [], [])
        two.weigh(0, 0, 50)
        self.check_book(one, [(0, 0, 60)], [(0, 5, 30)])

    def test_the_faults_are_those_of_the_book_that_would_come(self):
        house = house_with([(0, 0, 60)], [(0, 5, 30)])
        with self.assertRaises(Unsafe) as caught:
            house.give(0, 6, 61)
        self.assertEqual(caught.exception.faults, faults(WORLD, (((0, 0, 60),), ((0, 5, 30), (0, 6, 61)))))
        self.assertEqual([fault[0] for fault in caught.exception.faults], ["cap", "most", "part"])


class AnyOrder(Deeds):

    def test_the_same_entries_in_several_orders(self):
        told = (((0, 0, 60), (0, 20, 50), (1, 3, 40)), ((0, 5, 20), (1, 12, 20), (2, 8, 40), (3, 40, 50)))
        weighings = (("weigh", 0, 0, 60), ("weigh", 0, 20, 50), ("weigh", 1, 3, 40))
        givings = (("give", 0, 5, 20), ("give", 3, 40, 50), ("give", 1, 12, 20), ("give", 2, 8, 40))
        for weighed in itertools.permutations(weighings):
            for given in itertools.permutations(givings):
                house = House(WORLD)
                for deed, *values in weighed + given:
                    self.let_by(getattr(house, deed), *values)
                self.assertEqual(house.book(), told)

    def test_what_comes_and_goes_leaves_nothing(self):
        house = house_with([(0, 0, 60)], [(0, 5, 30)])
        house.weigh(0, 3, 90)
        house.give(0, 9, 60)
        house.amend(0, 9, 5)
        house.move(0, 9, 30)
        house.move(0, 30, 10)
        house.strike(0, 10)
        house.unweigh(0, 3)
        self.check_book(house, [(0, 0, 60)], [(0, 5, 30)])


def entry_of(book, deed, values):
    """The refusal of point 23 that a deed on this book gets, as (class, entry), or None."""
    key = tuple(values[:2])
    stands = key in [row[:2] for row in book[0 if "weigh" in deed else 1]]
    if deed in ("weigh", "give"):
        return (Twice, key) if stands else None
    if not stands:
        return (NoEntry, key)
    other = (values[0], values[-1])
    if deed == "move" and other != key and other in [row[:2] for row in book[1]]:
        return (Twice, other)
    return None


def book_behind(book, deed, values):
    """The book that comes of a deed which point 23 doesn't refuse."""
    rows = [{row[:2]: row[2] for row in part} for part in book]
    key = tuple(values[:2])
    part = rows[0 if "weigh" in deed else 1]
    had = part.pop(key, None)
    if deed in ("weigh", "give", "amend"):
        part[key] = values[2]
    if deed == "move":
        part[(values[0], values[2])] = had
    return tuple(tuple(sorted(key + (value,) for key, value in part.items())) for part in rows)


class Rows(unittest.TestCase):
    """Long rows of deeds, each let by if and only if the book that comes of it has no fault."""

    def some_deed(self, chance):
        deed = chance.choice(("weigh", "unweigh", "give", "give", "give", "strike", "amend", "move"))
        hour = chance.choice((0, 4, 6, 8, 9, 11, 12, 15, 30, 32, 33, 40))
        values = [chance.randrange(2 if "weigh" in deed else 4), hour]
        if deed == "weigh":
            values.append(chance.choice((5, 20, 40, 60, 90)))
        if deed in ("give", "amend"):
            values.append(chance.choice((-5, 0, 1, 5, 10, 10, 20, 30, 65)))
        if deed == "move":
            values.append(chance.choice((hour, 6, 8, 9, 11, 15, 32, 40)))
        return deed, values

    def step(self, house, deed, values, seen):
        before = house.book()
        refusal = entry_of(before, deed, values)
        told = None if refusal else faults(WORLD, book_behind(before, deed, values))
        try:
            self.assertIsNone(getattr(house, deed)(*values))
        except (Twice, NoEntry) as error:
            self.assertEqual((type(error), error.entry), refusal)
        except Unsafe as error:
            self.assertIsNone(refusal)
            self.assertEqual(error.faults, told)
            self.assertNotEqual(told, [])
        else:
            seen[deed] = seen.get(deed, 0) + 1
            self.assertEqual(told, [])
            self.assertEqual(house.book(), book_behind(before, deed, values))
            return
        self.assertEqual(house.book(), before)

    def test_long_rows(self):
        chance = random.Random(24)
        seen = {}
        for turn in range(150):
            house = House(WORLD)
            for number in range(80):
                deed, values = self.some_deed(chance)
                self.step(house, deed, values, seen)
                self.assertEqual(faults(WORLD, house.book()), [])
        self.assertEqual(len(seen), 6)
        self.assertGreater(min(seen.values()), 20)

    def test_a_house_of_what_a_house_keeps(self):
        chance = random.Random(25)
        for turn in range(40):
            house = House(WORLD)
            for number in range(60):
                deed, values = self.some_deed(chance)
                self.step(house, deed, values, {})
            weights, givings = [list(part) for part in house.book()]
            chance.shuffle(weights)
            chance.shuffle(givings)
            again = house_with(weights, givings)
            self.assertEqual(again.book(), house.book())
            for order in range(4):
                self.assertEqual(givings_of(again.book(), order), givings_of(house.book(), order))


if __name__ == "__main__":
    unittest.main()
