"""The guarantees (a) to (h) of point 2, over the whole program."""

import itertools
import unittest

from pairpicks.bars import bar, is_bar
from pairpicks.books import sizes, sure
from pairpicks.chains import chain, ends, grown
from pairpicks.close import close_pick, left_lone
from pairpicks.closings import closing, is_closing
from pairpicks.barring import always_closing, is_barring, never_closing
from pairpicks.fewer import plans_for, wide_grow
from pairpicks.greatest import greatest, greatest_pick
from pairpicks.growing import grow
from pairpicks.guards import is_guard, least_guard
from pairpicks.hours import assigned, choice, choice_tree, is_choice, is_choice_tree
from pairpicks.least import failing_bar, failing_book
from pairpicks.lone import is_lone, lone_of
from pairpicks.lonemore import changed_pick, with_changed, with_more
from pairpicks.many import picks, picks_many, tally
from pairpicks.moves import is_one_ring, move_book
from pairpicks.must import always, never, spare
from pairpicks.office import Office
from pairpicks.picks import is_pick, unused
from pairpicks.rising import deficit, rises, rising_pick
from pairpicks.steps import is_closed, lot_of, way_to
from pairpicks.tables import cut, is_cut, table_book
from pairpicks.texts import book_text, office_text, read_book, read_office
from pairpicks.trees import is_tree, tree
from pairpicks.unions import cover, is_cover, lack, union_size
from pairpicks.webs import hues, is_settled, load, parted, settled, web_of
from tests.helper import ALL_DIALS, Dice, all_picks, most_pairs
from tests.test_moves import product


class Whole(unittest.TestCase):
    def check_pick(self, book, pick, many):
        """Check that this is a pick of the book with just so many pairs."""
        self.assertIs(is_pick(book, pick), True)
        self.assertEqual(len(pick), many)

    def test_a_heart(self):
        dice = Dice(500)
        for k in range(1, 9):
            for _ in range(12):
                book = dice.book(2 * k - 1, k, k, dice.number(k, 8))
                self.assertEqual(sure(book), k)
                for start in ({}, dice.pick(book), dice.pick(book, 1)):
                    found = grow(book, start)[-1]
                    self.assertIs(is_pick(book, found), True)
                    self.assertGreaterEqual(len(found), k)
                self.check_pick(book, rising_pick(book, k), k)

    def test_b_growing(self):
        dice = Dice(501)
        done = 0
        for _ in range(300):
            k = dice.number(1, 8)
            book = dice.book(dice.number(k, 16), k, k, dice.number(k, 8))
            pick = dice.pick(book, dice.number(0, k - 1))
            left = unused(book, pick)
            if len(pick) < k <= len(left):
                order = dice.order(left)
                self.assertIs(ends(book, pick, order), True)
                more = grown(book, pick, order)
                self.check_pick(book, more, len(pick) + 1)
                self.assertLessEqual({p for p, d in pick.values()}, {p for p, d in more.values()})
                self.assertLessEqual({d for p, d in pick.values()}, {d for p, d in more.values()})
                numbers, persons, desks = zip(*chain(book, pick, order))
                self.assertEqual(len(set(desks)), len(desks))
                self.assertEqual(numbers, order[:len(desks)])
                done += 1
        self.assertGreater(done, 150)

    def test_c_the_lone_shape(self):
        dice = Dice(502)
        found = set()
        for k in range(2, 9):
            for _ in range(12):
                book = dice.book(2 * k - 2, k, k, dice.number(k, 8))
                lone = lone_of(dice.part(range(8), k), dice.part(range(8), k), tuple(range(k - 1)))
                for each in (book, lone):
                    pick = close_pick(each)
                    self.assertIs(pick is None, is_lone(each))
                    if pick is not None:
                        self.check_pick(each, pick, k)
                    found.add(pick is None)
                pair = (dice.number(0, 7), dice.number(0, 7))
                self.check_pick(lone + ((pair,),), with_more(lone, pair), k)
                plan = dice.plan(k)
                at = dice.number(0, 2 * k - 3)
                if plan != lone[at]:
                    self.check_pick(with_changed(lone, at, plan), changed_pick(lone, at, plan), k)
                    self.assertIs(is_lone(with_changed(lone, at, plan)), False)
                self.assertLessEqual({2 * k - 2}, set(left_lone(lone + (dice.plan(k),))))
        self.assertEqual(found, {True, False})

    def test_d_fewer_and_rising(self):
        dice = Dice(503)
        for k in range(1, 9):
            for j in range(k):
                many = plans_for(k, j)
                if many > 0:
                    book = dice.book(many, k, k, dice.number(k, 8))
                    self.assertGreaterEqual(len(wide_grow(book, {})[-1]), k - j)
            told = tuple(range(1, k)) + (k,) * k
            self.assertIs(rises(told, k), True)
            book = dice.book_of(dice.order(told), k)
            self.check_pick(book, rising_pick(book, k), k)
            for at in range(len(told)):
                less = told[:at] + (told[at] - 1,) + told[at + 1:]
                self.assertEqual(deficit(less, k), 1)
                book = failing_book(less, k)
                self.assertEqual(sizes(book), less)
                if k > 1:
                    self.assertIs(is_bar(book, failing_bar(less, k)), True)
                    one, other, lot, more = failing_bar(less, k)
                    self.assertIsNotNone(bar(book, one, other))
                if k < 4:
                    self.assertLess(most_pairs(book), k)

    def test_e_any_book(self):
        dice = Dice(504)
        for _ in range(80):
            book = dice.small_book(6, 16)
            everything = all_picks(book)
            most = greatest(book)
            self.check_pick(book, greatest_pick(book), most)
            self.assertEqual(most, max(len(pick) for pick in everything))
            for goal in range(1, 10):
                shown = tree(book, goal)
                self.assertIs(shown is None, goal <= most)
                if shown is not None:
                    self.assertIs(is_tree(book, goal, shown), True)
            guard = least_guard(book)
            self.assertIs(is_guard(book, guard), True)
            self.assertLessEqual(sum(len(part) for part in guard), 2 * most)
            numbers = tuple(range(len(book)))
            self.assertIs(is_cover(book, numbers, cover(book, numbers)), True)
            self.assertEqual(sum(len(part) for part in cover(book, numbers)), union_size(book, numbers))
            self.assertGreaterEqual(most, len(book) - lack(book))
            best = [pick for pick in everything if len(pick) == most]
            self.assertEqual(always(book)[0], tuple(k for k in numbers if all(k in pick for pick in best)))
            self.assertEqual(spare(book), sorted({unused(book, pick) for pick in best}))
            for number, person, desk in never(book):
                self.assertFalse(any(pick.get(number) == (person, desk) for pick in best))
            self.assertEqual(sum(tally(book).values()), len(everything))
            if picks_many(book, most) <= 200:
                one, other = dice.random.choice(picks(book, most)), dice.random.choice(picks(book, most))
                lot = lot_of(book, one)
                self.assertIs(is_closed(book, lot), True)
                self.assertIs(way_to(book, one, other) is None, other not in lot)

    def test_f_moves_and_rows(self):
        dice = Dice(505)
        for dials in ALL_DIALS:
            n = product(dials)
            for _ in range(10):
                moves = dice.moves(dials, 2 * n - 1)
                self.assertIs(is_closing(dials, moves, closing(dials, moves)), True)
                moves = dice.moves(dials, always_closing(dials))
                self.assertIsNotNone(closing(dials, moves))
                moves = dice.moves(dials, 2 * n - 2)
                self.assertIs(is_barring(dials, moves), is_lone(move_book(dials, moves)))
            self.assertIsNone(closing(dials, never_closing(dials)))
            self.assertIs(is_one_ring(dials), always_closing(dials) == 2 * n - 1)
        for n in range(1, 9):
            for _ in range(10):
                table = dice.table(2 * n - 1, n, dice.number(n, 8))
                self.assertIs(is_cut(table, cut(table)), True)
                if 1 < n < 7:
                    self.assertIs(cut(table[1:]) is None, is_lone(table_book(table[1:])))

    def test_g_a_live_office(self):
        dice = Dice(506)
        for _ in range(30):
            office = Office()
            book = dice.book(dice.number(1, 16), most=5)
            labels = dice.part(range(100), len(book))
            seats = {}
            for label, plan in zip(labels, book):
                office.come(label, plan)
                office.settle()
                self.assertLessEqual(set(seats), set(office.seated()))
                self.assertLessEqual(set(seats.values()), set(office.seated().values()))
                seats = office.seated()
            self.assertGreaterEqual(len(seats), sure(book))
            self.assertIs(read_office(office_text(office)) == office, True)
            self.assertEqual(read_office(office_text(office)).log(), office.log())
            self.assertEqual(read_book(book_text(office.book())), office.book())
            office.leave(labels[0])
            self.assertGreaterEqual(len(office.seated()), len(seats) - 1)

    def test_h_menus(self):
        dice = Dice(507)
        for _ in range(60):
            book = dice.book(dice.number(1, 16), least=1, most=6, among=dice.number(6, 8))
            web = web_of(book)
            told = hues(web)
            self.assertEqual(sorted(itertools.chain.from_iterable(parted(web, told))), list(web))
            lot = tuple(sorted(dice.part(web, dice.number(0, len(web)))))
            self.assertIs(is_settled(web, told, lot, settled(web, told, lot)), True)
            menus = {pair: tuple(sorted(dice.part(range(10), min(load(web), 10)))) for pair in web}
            self.assertIs(is_choice(web, menus, assigned(web, told, menus)), True)
            few = dice.web_up_to(8)
            menus = {pair: tuple(sorted(dice.part(range(4), dice.number(0, 2)))) for pair in few}
            found, shown = choice(few, menus), choice_tree(few, menus)
            self.assertIs(found is None, shown is not None)
            self.assertIs(is_choice(few, menus, found), found is not None)
            self.assertIs(is_choice_tree(few, menus, shown), shown is not None)

    def test_equal_arguments_give_equal_results(self):
        dice = Dice(508)
        for _ in range(30):
            book = dice.small_book(6, 16)
            again = tuple([tuple([(p, d) for p, d in plan]) for plan in book])
            pick = dice.pick(book)
            other = {number: pick[number] for number in sorted(pick, reverse=True)}
            for function in (greatest_pick, least_guard, always, never, spare, tally, lambda each: tree(each, 9)):
                self.assertEqual(function(book), function(again))
            for function in (grow, wide_grow, lambda each, some: way_to(each, some, some)):
                self.assertEqual(function(book, pick), function(again, other))


if __name__ == "__main__":
    unittest.main()
