"""Each example of the document, word for word."""

import doctest
import unittest

# By the section in which it stands.
EXAMPLES = {
    5: r'''
>>> from spoilorder.logs import fillings, letters, samples
>>> from spoilorder.shops import Shop
>>> shop = Shop((('g', ('a', 'b', 'v')),))
>>> log = (('run', 'p', ('a', 1), 'pass'), ('run', 'q', ('v', 1), 'fail'), ('run', 'q', ('a', 1), None))
>>> [fillings(shop, log), letters(shop, log[:1], ()), samples(shop, log, ('pass',), ('v', 1))]
[(('fail',), ('pass',)), ((0, 'p', ('pass', ('g', 0))), (0, 'p', ('pass', ('a', 1)))), ((1, 'fail', (('pass', ('g', 0)),), (('pass', ('g', 0)), ('pass', ('a', 1)), ('pass', ('g', 0)))),)]
''',
    6: r'''
>>> from spoilorder.shops import Shop
>>> from spoilorder.worlds import World
>>> shop = Shop((('g', ('a', 'b', 'v')),))
>>> a, b, v = ('a', 1), ('b', 1), ('v', 1)
>>> tempers = ((a, 'near', 'pass', ()), (b, 'near', 'pass', ()), (('g', 0), 'near', 'pass', ()), (v, 'near', 'pass', ((('pass', a), 'spoils'), (('pass', b), 'mends'))))
>>> world = World(shop, tempers)
>>> [world.outcomes((a, v)), world.outcomes((a, b, v)), world.after(world.start(1), 0, a)]
[('pass', 'fail'), ('pass', 'pass', 'pass'), ('pass', ((('g', ('pass', 'pass', 'pass', 'fail')),), ()))]
''',
    7: r'''
>>> from spoilorder.machines import alike, shrunk, worst
>>> from spoilorder.shops import Shop
>>> from spoilorder.worlds import World
>>> shop = Shop((('g', ('a', 'b', 'v')),))
>>> a, b, v = ('a', 1), ('b', 1), ('v', 1)
>>> kinds = ((('pass', a), 'spoils'), (('pass', b), 'mends'))
>>> near = World(shop, ((a, 'near', 'pass', ()), (b, 'near', 'pass', ()), (('g', 0), 'near', 'pass', ()), (v, 'near', 'pass', kinds)))
>>> far = World(shop, ((a, 'near', 'pass', ()), (b, 'near', 'pass', ()), (('g', 0), 'near', 'pass', ()), (v, 'far', 'pass', kinds)))
>>> [worst(near, v), worst(near, a)[0], shrunk(near, (b, a, a, v))[:2], alike(near, far, 1), alike(near, far, 2)]
[('fails', (('a', 1), ('v', 1))), 'never', ('kept', (1, 3)), ('parts', (('run', 0, ('a', 1)), ('clear',), ('run', 0, ('v', 1)))), ('parts', (('run', 0, ('a', 1)), ('run', 1, ('v', 1))))]
''',
    8: r'''
>>> from spoilorder.glasses import Glass
>>> text = '\n'.join(['cell c ok bad', 'group g', '  check a 1', '    set c bad', '  check b 1', '    set c ok', '  check v 1', '    want c ok'])
>>> glass = Glass(text)
>>> a, b, v = glass.all_items
>>> [glass.outcomes((a, v, b, v)), glass.after(glass.start(1), 0, a)]
[('pass', 'fail', 'pass', 'pass'), ('pass', ((('g', ('bad',)),), ()))]
''',
    9: r'''
>>> from spoilorder.shops import Shop
>>> from spoilorder.striking import filled, forecast, kinds, under, wheres
>>> shop = Shop((('g', ('a', 'b', 'v')),))
>>> a, b, v = ('a', 1), ('b', 1), ('v', 1)
>>> log = (('run', 'p', a, 'pass'), ('run', 'q', v, 'fail'), ('clear',), ('fresh', 'p'), ('fresh', 'q'), ('run', 'q', v, 'pass'))
>>> [wheres(shop, log, v), kinds(shop, log, v, ('pass', a)), under(shop, log, v, ('far', None, ((('pass', a), 'idle'),)))]
[('far',), ('spoils',), ('clash', (((), ('v', 1), (('far', ((('pass', ('g', 0)), 5, 1),), (5, 1)),)),))]
>>> [forecast(shop, log + (('run', 'p', v, None),)), forecast(shop, log + (('run', 'p', a, 'pass'), ('run', 'q', v, None)))]
[(('fail', 'pass', 'skip'),), (('fail',),)]
''',
    10: r'''
>>> from spoilorder.drawing import drawn, shows_drawn
>>> from spoilorder.glasses import Glass
>>> rows = ['cell c ok bad', 'cell d ok bad', 'group g', '  check a 1', '    set c bad', '  check b 1', '    set d bad', '  check m 1', '    set c ok', '  check v 1', '    want c ok', '    want d ok']
>>> glass = Glass('\n'.join(rows))
>>> found = drawn(glass, 1)
>>> [found[:2], shows_drawn(glass, 1, found), drawn(Glass('\n'.join(rows[:-1])), 1)[0]]
[('none', ('v', 1)), True, 'world']
''',
    11: r'''
>>> from spoilorder.culprits import suspects
>>> from spoilorder.shops import Shop
>>> shop = Shop((('g', ('a', 'b', 'v')),))
>>> a, v = ('a', 1), ('v', 1)
>>> log = (('run', 'p', a, 'pass'), ('run', 'q', v, 'fail'), ('clear',), ('fresh', 'p'), ('fresh', 'q'), ('run', 'q', v, 'pass'))
>>> suspects(shop, log, 1, v)
((0, ('pass', ('a', 1))),)
''',
    12: r'''
>>> from spoilorder.plans import queue, spread
>>> from spoilorder.shops import Shop
>>> shop = Shop((('g', ('a', 'b', 'v')),))
>>> a, b, v = ('a', 1), ('b', 1), ('v', 1)
>>> anew = (('clear',), ('fresh', 'p'), ('fresh', 'q'))
>>> log = (('run', 'p', a, 'pass'), ('run', 'p', v, 'fail')) + anew + (('run', 'p', v, 'pass'),) + anew
>>> log = log + (('run', 'p', a, 'pass'), ('run', 'p', b, 'pass'), ('run', 'p', v, 'pass')) + anew + (('run', 'p', b, 'pass'), ('run', 'p', a, 'pass'), ('run', 'p', v, 'fail')) + anew
>>> [spread(shop, log, (a, b, v), ('p', 'q'))[0], queue(shop, log, (a, b, v), ('p',))[:2], queue(shop, log, (a, b, v), ('p', 'q'))[0]]
['rows', ('order', (('a', 1), ('b', 1), ('v', 1))), 'none']
''',
    14: r'''
>>> from spoilorder.blaming import blamed
>>> from spoilorder.shops import Shop
>>> shop = Shop((('g', ('a', 'b', 'v')),))
>>> log = (('run', 'p', ('a', 1), 'pass'), ('run', 'p', ('v', 1), 'pass'), ('clear',), ('fresh', 'p'), ('run', 'p', ('a', 2), 'pass'), ('run', 'p', ('v', 1), 'fail'))
>>> [blamed(shop, log, (3, 1, 2, 3), 9)[:3], blamed(shop, log, (1, 3, 3, 3), 9)[1]]
[('reasons', 1, (('leaves', ('a', 2)),)), 1]
''',
    17: r'''
>>> from spoilorder.cleaning import cleaned
>>> from spoilorder.glasses import Glass
>>> glass = Glass('\n'.join(['cell c ok bad', 'group g', '  check a 1', '    set c bad', 'group h', '  check v 1', '    want c ok']))
>>> found = cleaned(glass, (('g', 'close', 'c', 'ok'), ('h', 'open', 'c', 'ok')), (2, 3), 1)
>>> [found[:3], found[4]]
[('clean', 2, (('g', 'close', 'c', 'ok'),)), (((), (('run', 0, ('a', 1)), ('run', 0, ('v', 1)))),)]
''',
}


class DocumentTest(unittest.TestCase):
    def test_examples(self):
        for section, text in EXAMPLES.items():
            names, answers = {}, 0
            for example in doctest.DocTestParser().get_examples(text):
                if example.want:
                    self.assertEqual(repr(eval(example.source, names)), example.want.rstrip("\n"), section)
                    answers += 1
                else:
                    exec(example.source, names)
            self.assertGreater(answers, 0)

    def test_there_are_ten(self):
        self.assertEqual(list(EXAMPLES), [5, 6, 7, 8, 9, 10, 11, 12, 14, 17])


if __name__ == "__main__":
    unittest.main()
