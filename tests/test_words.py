"""Words, letters that meet, deeds, and certificates for two words."""

from itertools import product

from tests.samples import (BIG_RULES, BOTH, CYCLE, DEEP, GUARD, ONE, RULES, SIX_RULES, SMALL_RULES, STRANGE, STUCK, SWAP,
                           WRONG_RULES, Case, plain_is_word, plain_product, plain_word_motion, shifted, spoiled,
                           wrong_letters, wrong_words)
from threesfit.errors import BadDeed, BadRule, BadWord
from threesfit.words import (are_same, done, is_word, judge_words, letters_met, word_motion, words_hold)


def letters_of(n):
    return [letter for letter in range(-n, n + 1) if letter]


def words_of(n, most):
    """All words of at most so many letters."""
    for many in range(most + 1):
        yield from product(letters_of(n), repeat=many)


def plain_met(rule, one, other):
    """The letters that two letters become, by the four lines of the document: all that fit are found."""
    n = len(rule)
    found = []
    for x, y in product(range(n), repeat=2):
        u, v = rule[x][y]
        lines = [((x + 1, y + 1), (u + 1, v + 1)), ((-(y + 1), -(x + 1)), (-(v + 1), -(u + 1))),
                 ((-(x + 1), u + 1), (y + 1, -(v + 1))), ((y + 1, -(v + 1)), (-(x + 1), u + 1))]
        found.extend(after for before, after in lines if before == (one, other))
    return found


def plain_done(rule, word, deed):
    """The word behind any value as deed, None if it can't be done."""
    n = len(rule)
    if type(deed) is not tuple or not 2 <= len(deed) <= 3 or type(deed[1]) is not int or deed[1] < 0:
        return None
    i = deed[1]
    if deed[0] == "in" and len(deed) == 3 and i <= len(word) and plain_is_word(deed[2:], n):
        return word[:i] + (deed[2], -deed[2]) + word[i:]
    if len(deed) == 3 or i + 2 > len(word):
        return None
    if deed[0] == "out" and word[i] + word[i + 1] == 0:
        return word[:i] + word[i + 2:]
    return word[:i] + plain_met(rule, word[i], word[i + 1])[0] + word[i + 2:] if deed[0] == "meet" else None


def plain_deeds(n, word):
    """All deeds that can be done on a word."""
    deeds = [("meet", i) for i in range(len(word) - 1)]
    deeds += [("out", i) for i in range(len(word) - 1) if word[i] == -word[i + 1]]
    return deeds + [("in", i, a) for i in range(len(word) + 1) for a in letters_of(n)]


def some_words(n):
    """Words of up to twelve letters."""
    def letter(k):
        return letters_of(n)[k % (2 * n)]

    return [tuple(letter(k * k * step + k * many + step // 2) for k in range(many))
            for many in range(13) for step in (1, 3, 4)]


def long_words(n):
    """Words of 200 letters, and of more."""
    return [tuple((k % n + 1) * (-1) ** (k * k // 3) for k in range(200)), (-n, 1) * 110, (n,) * 205, (-1,) * 200]


class LetterTests(Case):
    def test_letters(self):
        for rule in RULES:
            for one, other in product(letters_of(len(rule)), repeat=2):
                wanted = plain_met(rule, one, other)
                self.assertEqual(len(wanted), 1)
                self.is_just(letters_met(rule, one, other), wanted[0])
                self.is_just(letters_met(rule, *wanted[0]), (one, other))
                self.is_just(plain_word_motion(rule, (one, other)), plain_word_motion(rule, wanted[0]))

    def test_by_hand(self):
        self.is_just([letters_met(GUARD, *pair) for pair in [(3, 1), (-3, 1), (3, -1), (-1, -3)]],
                     [(2, 3), (2, -3), (-2, 3), (-3, -2)])
        self.is_just([letters_met(ONE, 1, 1), letters_met(ONE, 1, -1), letters_met(ONE, -1, -1)], [(1, 1), (-1, 1), (-1, -1)])
        self.is_just(letters_met(other=-2, one=1, rule=BOTH), (-1, 2))

    def test_letters_fit_all_threes(self):
        for rule in [BOTH, GUARD, SWAP, CYCLE, STUCK]:
            for word in product(letters_of(len(rule)), repeat=3):
                left = right = word
                for i in (0, 1, 0):
                    left, right = done(rule, left, ("meet", i)), done(rule, right, ("meet", 1 - i))
                self.is_just(left, right)

    def test_wrong_letters(self):
        for rule in [ONE, BOTH, GUARD, shifted(8)]:
            for letter in wrong_letters(len(rule)):
                self.refuses(BadWord, letter, letters_met, rule, letter, 1)
                self.refuses(BadWord, letter, letters_met, rule, 1, letter)
                self.refuses(BadWord, letter, letters_met, rule, letter, None)
        self.refuses(BadWord, DEEP, letters_met, other=DEEP, one=-1, rule=BOTH)


class WordTests(Case):
    def test_words(self):
        for rule in RULES:
            n = len(rule)
            for word in list(words_of(n, 1)) + some_words(n) + long_words(n):
                self.says(True, is_word, rule, word)
                self.is_just(word_motion(rule, word), plain_word_motion(rule, word))
            for thing in STRANGE + wrong_words(n) + list(spoiled((1, -1, n))):
                self.says(plain_is_word(thing, n), is_word, rule, thing)
                if not plain_is_word(thing, n):
                    self.refuses(BadWord, thing, word_motion, rule, thing)
        self.is_just(is_word(thing=(1, -3), rule=GUARD), True)
        self.is_just(word_motion(word=(1, -2), rule=BOTH), ((1, -1), (0, 1)))

    def test_products(self):
        for rule in SMALL_RULES:
            for one, other in product(some_words(len(rule))[::4], repeat=2):
                wanted = plain_product(word_motion(rule, one), word_motion(rule, other))
                self.is_just(word_motion(rule, one + other), wanted)
                back = tuple(-letter for letter in reversed(one))
                self.is_just(word_motion(rule, one + back), ((0,) * len(rule), tuple(range(len(rule)))))

    def test_wrong_rules(self):
        for rule in WRONG_RULES:
            for tell in (is_word, word_motion):
                self.refuses(BadRule, rule, tell, rule, (1,))
                self.refuses(BadRule, rule, tell, rule, None)
            for tell in (letters_met, done, are_same, judge_words):
                self.refuses(BadRule, rule, tell, rule, (1,), (1,))
                self.refuses(BadRule, rule, tell, rule, 0, [None])
            self.refuses(BadRule, rule, words_hold, rule, (1,), (1,), ("deeds", ()))


class DeedTests(Case):
    def check(self, rule, word, deed):
        wanted = plain_done(rule, word, deed)
        if wanted is None:
            self.refuses(BadDeed, deed, done, rule, word, deed)
        else:
            self.says(wanted, done, rule, word, deed)
            self.is_just(plain_word_motion(rule, wanted), plain_word_motion(rule, word))

    def test_all_deeds(self):
        for rule in [ONE, BOTH, GUARD, SWAP]:
            n = len(rule)
            for word in words_of(n, 3 if n < 3 else 2):
                for i in range(-2, len(word) + 2):
                    for deed in [("meet", i), ("out", i)] + [("in", i, a) for a in range(-n - 1, n + 2)]:
                        self.check(rule, word, deed)

    def test_first_and_last_places(self):
        for rule in RULES:
            n = len(rule)
            for word in some_words(n)[::5] + long_words(n)[:1] + [(1, -1), (-n, n), (1, 1), (1,), ()]:
                for i in (0, len(word) - 3, len(word) - 2, len(word) - 1, len(word), len(word) + 1):
                    for deed in [("meet", i), ("out", i), ("in", i, n), ("in", i, -1)]:
                        self.check(rule, word, deed)

    def test_met_twice(self):
        for rule in RULES:
            for word in some_words(len(rule)):
                for i in range(len(word) - 1):
                    self.is_just(done(rule, done(rule, word, ("meet", i)), ("meet", i)), word)

    def test_any_value_as_deed(self):
        for rule in [ONE, BOTH, GUARD]:
            word = (1, -1, 1, len(rule))
            for right in [("meet", 1), ("out", 0), ("in", 4, -1), ("in", 0, len(rule))]:
                for deed in spoiled(right):
                    self.check(rule, word, deed)
            for deed in STRANGE + [("meet",), ("out",), ("in",), ("in", 0), ("meet", 0, 1), ("out", 0, 1), ("in", 0, 0), ("in", 0, 1, -1),
                                   ("in", 0, len(rule) + 1), ("meet", True), ("out", False), ("in", False, 1), ("in", 0, True),
                                   ("meet", "0"), ("meet", None), ("in", 0, None), ("in", (0,), 1), ("put", 0), (None, 0), (0, 0),
                                   ("meet", 10 ** 39), (["meet"], 0), ("meet", 1, 0, 0), ("out", 0, 1, 1), ("in", 0, 1, 1), ["meet", 0], "meet", {"meet": 0}, ("Meet", 0), ()]:
                self.check(rule, word, deed)
                self.check(rule, (), deed)
        self.is_just(done(deed=("in", 1, -3), word=(1, 2), rule=GUARD), (1, -3, 3, 2))

    def test_wrong_words(self):
        for rule in [ONE, BOTH, GUARD, shifted(8)]:
            for word in wrong_words(len(rule)):
                self.refuses(BadWord, word, done, rule, word, ("meet", 0))
                self.refuses(BadWord, word, done, rule, word, None)


class CertificateTests(Case):
    def follow(self, rule, one, other):
        """Check what judge_words says of two words, step by step."""
        motions = plain_word_motion(rule, one), plain_word_motion(rule, other)
        found = judge_words(rule, one, other)
        self.is_just(are_same(rule, one, other), motions[0] == motions[1])
        self.is_just(words_hold(rule, one, other, found), True)
        self.is_just(words_hold(rule, one, other, ("motions",) + motions), motions[0] != motions[1])
        if motions[0] != motions[1]:
            self.is_just(found, ("motions",) + motions)
            return
        self.is_just([found[0], len(found), type(found[1])], ["deeds", 2, tuple])
        word = one
        for deed in found[1]:
            word = plain_done(rule, word, deed)
        self.is_just(word, other)

    def test_all_short_words(self):
        for rule, most in [(ONE, 4), (BOTH, 3), (GUARD, 2), (SWAP, 2)]:
            for one, other in product(list(words_of(len(rule), most)), repeat=2):
                self.follow(rule, one, other)

    def test_words_of_twelve_letters(self):
        for rule in SMALL_RULES + BIG_RULES[:1]:
            n = len(rule)
            for word in some_words(n):
                other = word
                for k in range(25):
                    deeds = plain_deeds(n, other)
                    deed = deeds[(k * k * 7 + k + len(word)) % len(deeds)]
                    if deed[0] != "in" or len(other) < 11:
                        other = plain_done(rule, other, deed)
                        self.is_just(words_hold(rule, word, other, ("deeds", ())), word == other)
                self.follow(rule, word, other)
                self.follow(rule, other, word)
                self.follow(rule, word, word)
                for less in range(1, len(word) + 1):
                    self.follow(rule, word, word[less:])

    def test_greater_words(self):
        for rule in SIX_RULES + BIG_RULES:
            for word in long_words(len(rule)):
                self.is_just(are_same(rule, word, word + (1, -1)), True)
                self.is_just(are_same(rule, word, word + (1,)), False)
                self.is_just(words_hold(rule, word, word[:-1], ("deeds", (("in", 0, 1),))), False)

    def test_deeds_of_any_length(self):
        self.is_just(words_hold(GUARD, (3, 1), (3, 1), ("deeds", (("meet", 0),) * 20000)), True)
        self.is_just(words_hold(GUARD, (3, 1), (2, 3), ("deeds", (("meet", 0),) * 20001)), True)
        self.is_just(words_hold(GUARD, (3, 1), (2, 3), ("deeds", (("meet", 0),) * 20000)), False)
        around = (("in", 1, -2), ("meet", 0), ("meet", 0), ("out", 1))
        self.is_just(words_hold(GUARD, (3, 1), (2, 3), ("deeds", around * 1000 + (("meet", 0),))), True)
        deeds = tuple(("in", k, 1) for k in range(900))
        self.is_just(words_hold(ONE, (), (1,) * 900 + (-1,) * 900, ("deeds", deeds)), True)

    def test_deeds_of_others(self):
        for rule in [BOTH, GUARD, CYCLE]:
            n = len(rule)
            for word in some_words(n)[::3]:
                other, deeds = word, ()
                for k in range(9):
                    options = plain_deeds(n, other)
                    deeds += (options[(k * 11 + len(word)) % len(options)],)
                    other = plain_done(rule, other, deeds[-1])
                    self.says(True, words_hold, rule, word, other, ("deeds", deeds))
                    self.says(word == other, words_hold, rule, word, other, ("deeds", ()))
                for thing in spoiled(("deeds", deeds[:4])):
                    self.says(plain_holds(rule, word, other, thing), words_hold, rule, word, other, thing)

    def test_any_value(self):
        for rule, one, other in [(BOTH, (1, 1, -2), (2,)), (BOTH, (1,), (2,)), (GUARD, (), ()), (GUARD, (3, -1), (1,)), (ONE, (), (1,))]:
            right = judge_words(rule, one, other)
            things = list(spoiled(right)) + STRANGE + [("deeds",), ("motions",), ("deeds", []), ("deeds", None), ("deeds", (), ()), (), "deeds",
                                                      ("motions", (), ()), ("deeds", ((),)), ("deeds", "meet"), {"deeds": ()}, ["deeds", ()]]
            for thing in things:
                self.says(plain_holds(rule, one, other, thing), words_hold, rule, one, other, thing)
        motions = ((1, 0), (1, 0)), ((0, 1), (1, 0))
        self.is_just(words_hold(BOTH, (1,), (2,), ("motions",) + motions), True)
        self.is_just(words_hold(BOTH, (1,), (2,), ("motions",) + motions[::-1]), False)
        self.is_just(words_hold(BOTH, (1,), (2,), ("motions", ((True, 0), (1, 0)), motions[1])), False)
        self.is_just(words_hold(BOTH, (1,), (1,), ("motions", motions[0], motions[0])), False)

    def test_by_name(self):
        self.is_just(are_same(other=(2,), one=(1, 1, -2), rule=BOTH), True)
        self.is_just(judge_words(other=(2,), one=(1,), rule=BOTH), ("motions", ((1, 0), (1, 0)), ((0, 1), (1, 0))))
        self.is_just(words_hold(thing=("deeds", ()), other=(2,), one=(2,), rule=BOTH), True)

    def test_wrong_words(self):
        for rule in [ONE, BOTH, GUARD, shifted(5)]:
            for word in wrong_words(len(rule)):
                for tell in (are_same, judge_words):
                    self.refuses(BadWord, word, tell, rule, word, (1,))
                    self.refuses(BadWord, word, tell, rule, (1,), word)
                    self.refuses(BadWord, word, tell, rule, word, [None])
                self.refuses(BadWord, word, words_hold, rule, (), word, ("deeds", ()))
                self.refuses(BadWord, word, words_hold, rule, word, None, ("deeds", ()))


def plain_holds(rule, one, other, thing):
    """Whether any value is a certificate for two words, by the words of the document."""
    motions = plain_word_motion(rule, one), plain_word_motion(rule, other)
    if repr(thing) == repr(("motions",) + motions):
        return motions[0] != motions[1]
    if type(thing) is not tuple or len(thing) != 2 or thing[0] != "deeds" or type(thing[1]) is not tuple:
        return False
    word = one
    for deed in thing[1]:
        word = None if word is None else plain_done(rule, word, deed)
    return word == other
