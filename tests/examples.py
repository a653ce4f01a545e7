"""The examples of the document, all of them, in their order: each rests on those ahead of it."""

EXAMPLES = r"""
>>> from commonanswer.systems import System
>>> need, room = ("need", ((-2, -1), (-1, -1)), (-4, -3)), ("room", ((1, 1), (0, 1)), (5, 5))
>>> more, rest = ("more", ((-1, -1), (0, 0)), (0, 0)), ("rest", ((0, 0), (-1, -1)), (0, 0))
>>> shop = System(("x", "y"), (need, room, more, rest))
>>> [shop.names, len(shop), str(shop).split("\n")[1], shop == System.read(str(shop)), shop.without(0).names]
[('need', 'room', 'more', 'rest'), 4, 'row need -2 -1 -1 -1 -4 -3', True, ('room', 'more', 'rest')]
>>> tight = shop.changed(("room", "bound", (3, 5)))
>>> tight.rows[1]
('room', ((1, 1), (0, 1)), (3, 5))
>>> from commonanswer.answers import is_possible, is_sure, member_with, rooms
>>> four, three = ((0, 1), (4, 1)), ((3, 2), (0, 1))
>>> [is_sure(shop, four), is_sure(shop, three), is_possible(shop, three), rooms(shop, three)[:2]]
[True, False, True, (((-5, 2), (0, 1)), ((7, 2), (7, 2)))]
>>> member_with(shop, three)[0]
(((-2, 1), (-1, 1)), (-3, 1))
>>> from commonanswer.common import barring, common, sure_range
>>> [is_sure(shop, common(shop)), barring(shop), common(tight), sure_range(shop, "x"), sure_range(shop, "y")]
[True, None, None, ((0, 1), (5, 1)), ((0, 1), (5, 1))]
>>> from commonanswer.possible import possible, possible_range
>>> [is_possible(shop, possible(shop)), possible_range(shop, "x"), possible_range(shop, "y")]
[True, ((0, 1), (5, 1)), ((0, 1), None)]
>>> from commonanswer.costs import best, cheapest, worst, worst_member
>>> [worst(shop, (2, 1)), best(shop, (2, 1)), cheapest(shop, (2, 1)), worst(shop, (0, -1)), best(shop, (0, -1))]
[(4, 1), (3, 1), ((0, 1), (4, 1)), (-5, 1), None]
>>> member, weights = worst_member(shop, (2, 1))
>>> len(member), len(weights)
(4, 4)
>>> from commonanswer.bars import least_bars, spare_rows
>>> [least_bars(shop), least_bars(tight), spare_rows(shop), spare_rows(shop.more(("easy", ((1, 1), (0, 0)), (5, 9))))]
[(), ((0, 1),), (), (4,)]
>>> from commonanswer.widening import greatest_widening, widened
>>> loose = System(("x",), (("up", ((1, 2),), (40, 50)), ("down", ((-3, -2),), (-10, -8))))
>>> [widened(loose, 1).rows[0], greatest_widening(loose), greatest_widening(shop)]
[('up', ((0, 3),), (39, 51)), 1, 0]
>>> from commonanswer.comparing import are_alike, is_within, straying
>>> [is_within(tight, shop), is_within(shop, tight), straying(tight, shop), are_alike(shop, shop.more(("easy", ((1, 1), (0, 0)), (5, 9))))]
[True, False, None, True]
>>> from commonanswer.seeing import clash, fits, fitting
>>> [fits(shop, (four, three)), fits(shop, (((0, 1), (9, 1)), ((0, 1), (2, 1)))), clash(shop, (((0, 1), (9, 1)), ((0, 1), (2, 1)))), fitting(shop, (four, three))[0]]
[True, False, 0, (((-2, 1), (-1, 1)), (-3, 1))]
>>> from commonanswer.mends import holds, mends
>>> [holds(shop, ("serves", (2, 1), 4)), holds(shop, ("serves", (2, 1), 3)), holds(tight, ("all",)), holds(tight, ("some",))]
[True, False, False, True]
>>> mends(tight, (("all",),), (("room", "bound", (4, 4)), ("need", "x", (-2, -2)), ("need", "bound", (-3, -3)), ("room", "bound", (9, 1))))
((0,), (1,), (2,))
>>> from commonanswer.live import Desk
>>> desk = Desk(("x", "y"))
>>> desk.put(need)
>>> desk.put(("room", ((1, 1), (0, 1)), (3, 5)))
>>> desk.put(more)
>>> desk.narrow("room", "bound", (4, 5))
>>> [len(desk), desk.served, desk.system.rows[1][2]]
[3, True, (4, 5)]
>>> desk.narrow("room", "bound", (3, 5))
raises InvalidStretch(given=(3, 5))
>>> from commonanswer.shelves import Shelf
>>> shelf = Shelf()
>>> shelf["now"] = shop
>>> shelf["then"] = tight
>>> shelf.ask(("within", "then", "now"))
>>> [shelf.names, len(shelf.demands), shelf.changes, "other" in shelf]
[('now', 'then'), 1, 3, False]
>>> shelf.ask(("then", ("all",)))
raises Broken(index=1)
>>> from commonanswer.certificates import certify_all, certify_asks, certify_serves, certify_some, certify_within
>>> from commonanswer.checker import accepts
>>> [certify_all(shop)[0][0], certify_all(tight)[0][0], certify_some(tight)[0][0], certify_serves(shop, (2, 1))[0][2:], certify_asks(shop, (2, 1))[0][0]]
['all', 'barred', 'some', ((2, 1), 4, 1), 'asks']
>>> lone = System(("x",), (("a", ((-1, 1),), (-1, -1)),))
>>> [accepts(("barred", str(lone)), (((((0, 1),), (-1, 1)),), ((1, 1),))), accepts(("all", str(lone)), ((9, 1),)), certify_within(shop, tight)[0][0]]
[True, False, 'strays']
>>> from commonanswer.console import Console
>>> console = Console(("x", "y"))
>>> [console.say("put need -2 -1 -1 -1 -4 -3"), console.say("put room 1 1 0 1 5 5"), console.say("all"), console.say("worst 1 1"), console.say("range x"), console.say("put need 1 1"), console.say("worst 1")]
['ok', 'ok', 'yes', '4', '-1 5', 'InvalidRow', 'InvalidCosts']
>>> console.say("put need")
raises InvalidText(given='put need')
"""
