"""Chains with thousands of links."""

import unittest
from random import Random

from openmarks.errors import InvalidChain
from openmarks.gaps.levels import chain_states, is_chain, is_number_paper, marks_needed
from openmarks.queries.budgets import is_together_paper, together_paper
from openmarks.queries.queries import least_query
from samples import (
    AB, BELOW, BOOLEANS, CHILD, EVEN, TREE, UNDER, WRONG, check_raises, check_same, near_query, plain_state, with_part)

SAME = ((("b",), ("a",), ("b",)),) + (((), ("a",), ("b",)),) * 2999
SOURCE = Random(170)


def plain_pairs(query, chain, plain):
    """The pairs of the links, by [0.10] and [0.11], or None."""
    least = least_query(query)
    if not isinstance(chain, tuple):
        return None
    pairs, state = [], None
    for link in chain:
        if not isinstance(link, tuple) or len(link) != 3:
            return None
        for word in link:
            if not isinstance(word, tuple) or len(word) > 5000 or not all(
                    isinstance(label, str) and label in least[0] for label in word):
                return None
        down, word, other = link
        if not word or len(word) != len(other) or (word != other and not plain) or (state is None and not down):
            return None
        p = plain_state(least, down, state)
        state = plain_state(least, word, p)
        if plain_state(least, other, state) != state or least[2][p] == least[2][state]:
            return None
        pairs.append((p, state))
    return tuple(pairs)


def random_chain(query, many, plain):
    """A chain whose links differ."""
    chain, state = [], None
    for _ in range(4000):
        down = tuple(SOURCE.choice(AB) for _ in range(SOURCE.randint(0 if chain else 1, 3)))
        word = tuple(SOURCE.choice(AB) for _ in range(SOURCE.randint(1, 3)))
        other = tuple(SOURCE.choice(AB) for _ in word) if plain else word
        p = plain_state(query, down, state)
        s = plain_state(query, word, p)
        if plain_state(query, other, s) == s and query[2][p] != query[2][s]:
            chain.append((down, word, other))
            state = s
            if len(chain) == many:
                break
    return tuple(chain)


DIFFERENT = random_chain(EVEN, 400, True)
NAMED = random_chain(least_query(UNDER), 300, False)
CHAINS = ((EVEN, SAME, True), (EVEN, DIFFERENT, True), (UNDER, NAMED, False), (UNDER, NAMED, True))


class Chains(unittest.TestCase):

    def check(self, query, value, plain):
        wanted = plain_pairs(query, value, plain)
        self.assertIs(is_chain(query, value, plain=plain), wanted is not None)
        if wanted is None:
            check_raises(self, InvalidChain, chain_states, query, value, plain=plain)
        else:
            check_same(self, chain_states(query, value, plain=plain), wanted)
        return wanted is not None

    def test_cases(self):
        self.assertEqual((len(SAME), len(DIFFERENT), len(NAMED)), (3000, 400, 300))
        self.assertEqual([marks_needed(query, plain=plain) for query, _, plain in CHAINS], [None] * 4)
        for query, chain, plain in CHAINS:
            self.assertTrue(self.check(query, chain, plain))
            self.assertGreater(len(set(chain)), 1)

    def test_first_wrong_link(self):
        """The first wrong link is at the front, in the middle or at the end."""
        word = ("a",)
        wrong = (None, (), word, (word, word), (word,) * 4, [word, word, ("b",)], ([], word, ("b",)), ((), ["a"], ("b",)),
                 ((), word, ["b"]), ((), word, None), ((), (), ()), ((), word, ()), ((), word, ("b", "b")),
                 ((), ("c",), ("c",)), (("c",), word, ("b",)), ((), word, ("c",)), ((), (["a"],), ("b",)),
                 (({},), word, ("b",)), ((), word, (TREE,)), ((), (None,), (None,)), ((), (True,), ("b",)), ((), word, word),
                 ((), ("b",), ("b",)), (("a",) * 5001, word, ("b",)), ((), ("a",) * 5001, ("b",) * 5001), "aab", TREE,
                 ((), ("b",), ("a",)))
        for query, chain, plain in CHAINS:
            for at in (0, 1, len(chain) // 2, len(chain) - 1):
                found = [self.check(query, with_part(chain, link, at), plain) for link in wrong]
                self.assertIn(False, found)
                self.check(query, chain[:at] + chain[at + 1:], plain)
                self.check(query, chain[:at] + (((), word, ("b",)),) + chain[at:], plain)
                for link in WRONG[::5]:
                    self.assertFalse(self.check(query, with_part(chain, link, at), plain))
            self.assertFalse(self.check(query, list(chain), plain))
            self.check(query, chain[::-1], plain)
            self.check(query, chain, not plain)
            self.check(BELOW, chain, plain)

    def test_states_matter(self):
        """One and the same link can be right behind one state and wrong behind another one."""
        query = (AB, (0, 1), ((1, 0), (1, 2), (2, 0)), ("x", "y", "z"))
        link = ((), ("a",), ("a",))
        self.assertIs(self.check(query, ((("a", "b", "b"), ("a",), ("a",)),), False), True)
        self.assertIs(self.check(query, ((("a", "b", "b"), ("a",), ("a",)), link), False), False)
        for plain in BOOLEANS:
            for k in range(300):
                query = near_query(SOURCE, 5, AB, (-1, 0, 1))
                links = [(tuple(SOURCE.choice(AB) for _ in range(k % 3)), word, word if not plain else tuple(
                    SOURCE.choice(AB) for _ in word)) for word in (("a",), ("b",), ("a", "b"), ("b", "a", "a"))]
                self.check(query, tuple(SOURCE.choice(links) for _ in range(SOURCE.randint(1, 4))), plain)

    def test_long_words(self):
        for many, right in ((4999, False), (5000, True), (5001, False)):
            link = (("b",), ("a", "b") * (many // 2) + ("b",) * (many % 2), ("a", "b") * (many // 2) + ("b",) * (many % 2))
            self.assertIs(is_chain(BELOW, (link,)), right or many == 4999)
            self.assertIs(is_chain(BELOW, ((("b",) * many, ("a", "a"), ("a", "a")),)), many <= 5000)

    def test_papers(self):
        """Number papers have such chains, too."""
        query = (AB, (0, 0), ((1, 1), (1, 1)), ("x", "y"))
        self.assertIs(is_number_paper(query, ("number", (0, 0), ())), True)
        self.assertIs(is_number_paper(query, ("number", (0, 0), SAME), plain=True), False)
        paper = together_paper((CHILD, BELOW))
        for at in range(len(paper[2])):
            for link in (None, (), ((), (), ()), paper[2][0][::-1]):
                changed = with_part(paper[2], link, at)
                if changed != paper[2]:
                    self.assertIs(is_together_paper((CHILD, BELOW), paper[:2] + (changed,)), False)


if __name__ == "__main__":
    unittest.main()
