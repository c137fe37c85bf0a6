"""The examples of the document, word by word."""

import re
import unittest

from missingmiles.errors import InvalidText, UnknownName

ERRORS = {"InvalidText": InvalidText, "UnknownName": UnknownName}

EXAMPLES = r"""
```
>>> from missingmiles.ratios import added, ratio, read_ratio
>>> [ratio(6, -8), added((1, 2), 1), read_ratio('-3/4')]
[(-3, 4), (3, 2), (-3, 4)]
```
```
>>> from missingmiles.straight import Problem
>>> [Problem(1, [([1], 2, False), ([-1], -3, False)]).solve().told(), Problem(1, [([1], 2, False)]).greatest([3]).told()]
['barred', 'top 6']
```
```
>>> from missingmiles.worlds import World
>>> world = World({'a': 0, 'b': 1}, [[0, 4], [7, 0]])
>>> [world.far('a', 'b'), world.far(1, 'a'), world.names(), len(world)]
[(4, 1), (7, 1), ['a', 'b'], 2]
```
```
>>> from missingmiles.steps import changed
>>> from missingmiles.worlds import World
>>> world = World({'a': 0, 'b': 1}, [[0, 4], [7, 0]])
>>> [changed(world, ('road', 'foot', 'b', 'a', (1, 2))).table(), changed(world, ('place', 'c', 'a', 3, 5)).table()]
[[[(0, 1), (4, 1)], [(1, 2), (0, 1)]], [[(0, 1), (4, 1), (3, 1)], [(7, 1), (0, 1), (10, 1)], [(5, 1), (9, 1), (0, 1)]]]
```
```
>>> from missingmiles.texts import read_steps
>>> read_steps('if foot a b 2 ( cap foot 1 ) else ( )')
(('if', 'foot', 'a', 'b', (2, 1), (('cap', 'foot', (1, 1)),), ()),)
```
```
>>> from missingmiles.texts import read_steps
>>> read_steps('turn turn')
# raises InvalidText(word=1)
```
```
>>> from missingmiles.scripts import Script, run
>>> from missingmiles.worlds import World
>>> script = Script.read(['a', 'b'], 'road foot a b 1 ; round foot')
>>> run(script, World({'a': 0, 'b': 1}, [[0, 4], [7, 0]])).far('a', 'b')
(8, 1)
```
```
>>> from missingmiles.scripts import Script
>>> Script(['a'], (('forget', 'b'),))
# raises UnknownName(name='b')
```
```
>>> from missingmiles.lists import shortest
>>> from missingmiles.scripts import Script
>>> script = Script.read(['a', 'b'], 'road foot a b 2')
>>> [form.text() for form in shortest(script, '?1', '?2').forms()]
['foot ?1 ?2', 'foot b ?2 + foot ?1 a + 2']
```
```
>>> from missingmiles.comparing import are_alike, compare
>>> from missingmiles.scripts import Script
>>> one = Script.read([], 'scale foot 2 ; scale foot 3')
>>> [are_alike(one, Script.read([], 'scale foot 6')), compare(one, Script.read([], 'turn')).told()]
[True, 'parted']
```
```
>>> from missingmiles.amounts import most_over, most_saved
>>> from missingmiles.scripts import Script
>>> cap = Script.read([], 'cap foot 3')
>>> [most_over(Script.read([], 'cap foot 5'), cap).told(), most_saved(cap).told()]
['amount 2', 'growing']
```
```
>>> from missingmiles.facts import extreme, surely
>>> facts = [('most', (('foot', 'a', 'b', 1), ('foot', 'b', 'c', 1)), 4)]
>>> [extreme(['a', 'b', 'c'], facts, 'a', 'c').told(), surely(['a', 'b', 'c'], facts, ('most', (('foot', 'a', 'c', 2),), 8))]
['top 4', True]
```
```
>>> from missingmiles.atlases import Atlas
>>> from missingmiles.desk import Desk
>>> desk = Desk(Atlas(['a', 'b']))
>>> [desk('put r road foot a b 2'), desk('put e'), desk('alike r e'), desk('longer r e'), desk('forms r a b'), desk('over r e')]
['done', 'done', 'differ', 'never', '2 | foot a b', '0']
```
```
>>> from missingmiles.atlases import Atlas
>>> from missingmiles.pages import write_page
>>> atlas = Atlas(['a'])
>>> atlas.apply(('put', 'x', 'turn'), ('facts', ('least', (), (-1, 2))))
>>> write_page(atlas)
'atlas 1 a\nfact least -1/2\nx = turn\n'
```
"""


def blocks():
    """The examples, each with its lines of code and what it gives."""
    for block in re.findall(r"```\n(.*?)\n```", EXAMPLES, re.DOTALL):
        *lines, given = block.split("\n")
        yield [line.removeprefix(">>> ") for line in lines], given


class Examples(unittest.TestCase):
    def test_all(self):
        tried = 0
        for (*lines, last), given in blocks():
            names = {}
            if given.startswith("# raises "):
                self.check_raised([*lines, last], given.removeprefix("# raises "), names)
            else:
                exec("\n".join(lines), names)
                self.assertEqual(repr(eval(last, names)), given, last)
            tried += 1
        self.assertEqual(tried, 14)

    def check_raised(self, lines, told, names):
        name, key, value = re.fullmatch(r"(\w+)\((\w+)=(.*)\)", told).groups()
        with self.assertRaises(ERRORS[name]) as caught:
            exec("\n".join(lines), names)
        self.assertEqual((caught.exception.code, vars(caught.exception)[key]), (name, eval(value)))


if __name__ == "__main__":
    unittest.main()
