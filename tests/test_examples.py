"""The examples of the interface, as they are printed there."""

import unittest

from tests.examples import steps, take

BOOKS = """
>>> from rankedrules.books import Book, fusion, opposite
>>> small, wide, bad = Book("cost near safe: +-. .+-"), Book("cost near safe: ++-"), Book("cost near safe: +-. -+.")
>>> [small.names, small.rows, str(small.without(0)), str(wide.with_row(".+-")), opposite("+-."), fusion(small, (0, 1)), fusion(bad, (0, 1)), fusion(bad, ())]
[('cost', 'near', 'safe'), ('+-.', '.+-'), 'cost near safe: .+-', 'cost near safe: ++- .+-', '-+.', '+--', '--.', '...']
>>> Book("cost near: +-.")
raises InvalidText(given='cost near: +-.')
"""

LAYERS = """
>>> from rankedrules.layers import fits, holds, layers, left_over, quarrel
>>> free, ring = Book("cost near safe:"), Book("cost near safe: +-. .+- -.+")
>>> [layers(small), layers(wide), layers(free), layers(bad), left_over(bad), left_over(small), quarrel(bad), quarrel(ring)]
[((0,), (1,), (2,)), ((0, 1), (2,)), ((0, 1, 2),), None, (0, 1), None, (0, 1), (0, 1, 2)]
>>> [holds(free, "+-.", (2, 1, 0)), holds(free, ".+.", (2, 1, 0)), fits(wide, (0, 2, 1)), fits(wide, (2, 0, 1)), left_over(Book("a b: -. ++ .."))]
[False, True, True, False, (0,)]
"""

RANKINGS = """
>>> from rankedrules.rankings import beginnings, how_many, number_of, places, ranking_at
>>> [how_many(small), how_many(wide), how_many(free), how_many(bad), ranking_at(wide, 3), number_of(wide, (1, 0, 2)), number_of(wide, (2, 0, 1)), places(wide, 2), places(wide, 0)]
[1, 4, 6, 0, (1, 2, 0), 2, None, (1, 2), (0, 2)]
>>> [beginnings(wide, (0,)), beginnings(wide, (0, 1)), beginnings(wide, (2,)), beginnings(wide, ())]
[2, 2, 0, 4]
"""

FOLLOWING = """
>>> from rankedrules.following import above, alike, judge, needless, reasons
>>> [judge(small, "+.-"), judge(wide, "+-."), judge(wide, "--+"), judge(wide, "..+"), above(small), above(wide)]
['sure', 'open', 'never', 'sure', ((0, 1), (0, 2), (1, 2)), ()]
>>> [reasons(wide, 2), reasons(small, 2), reasons(small, 0), alike(small, Book("cost near safe: +-- .+-")), needless(Book("cost near safe: +-. .+- +.-"))]
[((0, 1),), ((0,), (1,)), (), True, (2,)]
"""

CASES = """
>>> from rankedrules.cases import Case, against, barred, told_by, winners
>>> vans = Case("ann 0 2 1; bob 1 0 1; cid 1 1 0; dan 1 2 1")
>>> [vans.names, vans.marks[1], against(vans, "ann", "bob"), winners(vans, (0, 1, 2)), winners(vans, (2, 0, 1)), told_by(vans, "bob"), barred(vans)]
[('ann', 'bob', 'cid', 'dan'), (1, 0, 1), '+-.', ('ann',), ('cid',), ('-+.', '.+-', '.+.'), ('dan',)]
>>> [winners(Case("a 1 1; b 1 1"), (1, 0)), barred(Case("a 0 2; b 1 1; c 2 0"))]
[('a', 'b'), ('b',)]
"""

JUDGING = """
>>> from rankedrules.judging import best_question, outcomes, possible, shares, sure
>>> [possible(small, vans), sure(small, vans), possible(wide, vans), sure(wide, vans), shares(wide, vans), shares(free, vans)[2]]
[('ann',), ('ann',), ('ann', 'bob'), (), ((1, 2), (1, 2), (0, 1), (0, 1)), (1, 3)]
>>> [outcomes(wide, (vans,)), len(outcomes(free, (vans, Case("a 0 1 0; b 1 0 0")))), best_question(free, ("++-", "+-.", "..+"))]
[((('ann',),), (('bob',),)), 4, 1]
"""

VEILS = """
>>> from rankedrules.veils import Veil, brightest, can_win, darkest, must_win, telling
>>> veil = Veil("ann 0 1-2; bob 1 0-3")
>>> [veil.marks, str(brightest(veil, "ann")), str(darkest(veil, "ann")), can_win(Book("cost near:"), veil), must_win(Book("cost near:"), veil), must_win(Book("cost near: +-"), veil)]
[(((0, 0), (1, 2)), ((1, 1), (0, 3))), 'ann 0 1; bob 1 3', 'ann 0 2; bob 1 0', ('ann', 'bob'), (), ('ann',)]
>>> [telling(Book("cost near:"), veil), telling(Book("cost near: +-"), veil)]
[(('ann', 1), ('bob', 1)), ()]
"""

DOUBTS = """
>>> from rankedrules.doubts import fewest_wrong, follows_with, struck, surely_wrong
>>> [struck(small), struck(bad), struck(ring), fewest_wrong(ring), surely_wrong(bad, 1), surely_wrong(bad, 0), follows_with(ring, "+.-", 1), follows_with(bad, "++.", 1)]
[((),), ((0,), (1,)), ((0,), (1,), (2,)), 1, (), None, False, True]
>>> [surely_wrong(Book("a b: -. ++"), 1), fewest_wrong(Book("a b: -. -- +-")), struck(Book("a b: -. -- +-"))]
[(0,), 2, ((0, 1),)]
"""

COURTS = """
>>> from rankedrules.courts import Court
>>> court = Court(("cost", "near", "safe"))
>>> court.tell("++-")
>>> court.tell_case(vans, "bob")
>>> [str(court.book), court.changes, how_many(court.book), court.forget(3), court.undo(), court.undo(), str(court.book)]
['cost near safe: ++- -+. .+- .+.', 2, 2, None, None, None, 'cost near safe: ++-']
>>> court.tell("--+")
raises NoRanking()
"""

DESKS = """
>>> from rankedrules.desks import Desk
>>> desk = Desk()
>>> desk.put("jury", small)
>>> desk.claim(("above", "jury", 0, 2))
>>> desk.claim(("fits", "jury"))
>>> [desk.names, len(desk.claims), "club" in desk, desk.changes]
[('jury',), 2, False, 3]
>>> desk.put("jury", wide)
raises Broken(index=0, told='open')
"""

TALKS = r"""
>>> from rankedrules.talks import answer, talk
>>> bench = Court(("cost", "near", "safe"))
>>> [answer(bench, "tell ++-"), answer(bench, "layers"), answer(bench, "above cost safe"), answer(bench, "tell --+"), answer(bench, "judge ++"), answer(bench, "count")]
['done', 'cost near / safe', 'open', 'no NoRanking', 'no InvalidRow', '4']
>>> talk(bench, "tell -+.\nabove near safe\nabove near near\nrows\nforget 2\nundo\nrows")
'done\nsure\nno UnknownName\n++- -+.\nno InvalidIndex\ndone\n++-'
"""

CERTIFICATES = """
>>> from rankedrules.certificates import certify_above, certify_candidate, certify_count, certify_fits, certify_judged
>>> from rankedrules.checker import accepts
>>> [certify_fits(bad), certify_fits(small), certify_judged(wide, "--+")[0][2], certify_judged(small, "+.-"), certify_above(wide, 0, 2), certify_count(wide)[0][2], certify_candidate(vans, "dan")[0]]
[(('quarrels', 'cost near safe: +-. -+.'), (0, 1)), (('fits', 'cost near safe: +-. .+-'), (0, 1, 2)), '++-', (('follows', 'cost near safe: +-. .+-', '+.-'), (0, 1)), None, 4, ('loses', 'ann 0 2 1; bob 1 0 1; cid 1 1 0; dan 1 2 1', 'dan')]
>>> [accepts(("open", str(wide), "+.-"), ((0, 2, 1), (1, 2, 0))), accepts(("alike", str(small), "cost near safe: +-- .+-"), None), accepts(("follows", str(wide), "..+"), ()), accepts(("loses", str(vans), "dan"), ("ann", "bob")), accepts(("loses", str(vans), "ann"), ("bob",))]
[True, True, True, True, False]
"""

# Later examples use the names of earlier ones, so they all share one session.
SESSION = (
    BOOKS, LAYERS, RANKINGS, FOLLOWING, CASES, JUDGING, VEILS, DOUBTS, COURTS, DESKS, TALKS, CERTIFICATES,
)


class ExamplesTest(unittest.TestCase):

    def test_each_example_prints_what_the_interface_shows(self):
        names = {}
        for part in SESSION:
            for statement, printed in steps(part):
                with self.subTest(statement=statement):
                    self.assertEqual(take(statement, names), printed)

    def test_no_example_is_left_out(self):
        self.assertEqual([len(steps(part)) for part in SESSION], [4, 4, 3, 3, 4, 3, 4, 3, 6, 7, 4, 4])


class StepsTest(unittest.TestCase):

    def test_a_printed_value_belongs_to_the_statement_above_it(self):
        self.assertEqual(steps(">>> x = 1\n>>> x\n1\n"), [("x = 1", None), ("x", "1")])

    def test_what_is_printed_is_told(self):
        names = {}
        self.assertIsNone(take("x = 'a'", names))
        self.assertEqual(take("x", names), "'a'")
        self.assertIsNone(take("None", names))
        self.assertEqual(take("1 // 0", names), "raises ZeroDivisionError()")


if __name__ == "__main__":
    unittest.main()
