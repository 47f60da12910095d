"""The errors of the program, all directly below WayError."""


class WayError(ValueError):
    """Something cannot be done with what was handed in; value tells what is wrong."""

    def __init__(self, value):
        self.value = value


class BadWord(WayError):
    """What stands where a word is expected is none."""


class BadWatch(WayError):
    """What stands where a watch is expected is none, or is not of the book."""


class BadWatches(WayError):
    """A row of watches is none (-1), or its item with this index is wrong."""


class BadBook(WayError):
    """What stands where a book is expected is none."""


class BadSpot(WayError):
    """What stands where a spot of the word is expected is none."""


class BadRule(WayError):
    """What stands where a rule is expected is none."""


class BadZigzag(WayError):
    """What stands where a zigzag of the word is expected is none."""


class BadRules(WayError):
    """Rules for watches are no dict (-1), or this key or its rule is wrong."""


class BadText(WayError):
    """A text is not written as it must be; mostly the index of its first wrong row."""


class BadReckoning(WayError):
    """What is to be a reckoning is none; of tables, the first thing that is not so."""


class BadWorth(WayError):
    """What stands where a worth of the reckoning is expected is none."""


class BadMost(WayError):
    """What is to be the most that is let is not within its bounds."""


class BadNumber(WayError):
    """What stands where a number is expected is none, or is a 0 that is not let."""


class BadWeb(WayError):
    """What is to be a web is none; of places and roads, the first wrong item."""


class BadName(WayError):
    """What stands where a name is expected is none, or is not known, or is taken."""


class BadLetter(WayError):
    """What stands where a letter is expected is none."""


class BadTable(WayError):
    """What stands where a table is expected is none of the right size."""


class BadMany(WayError):
    """What is to tell how many is not within its bounds."""


class BadTables(WayError):
    """Tables of watches are no dict, or empty (-1), or this key or its table is wrong."""


class NoRow(WayError):
    """No row at all fits the place with this index."""


class ManyRows(WayError):
    """More than one row fits the place with this index."""


class BadRow(WayError):
    """What stands where a row of numbers is expected is none."""


class BadFlat(WayError):
    """What stands where a flat in its shortest form is expected is none."""


class BadRoads(WayError):
    """Roads are no row (-1), or the item with this index is no road."""


class BadWords(WayError):
    """Words are no row (-1), or the item with this index is no word."""


class BadLetters(WayError):
    """What stands where a string of unlike letters is expected is none."""


class BadWatchers(WayError):
    """Watchers are no row, or the item told by these indexes is wrong."""


class BadNames(WayError):
    """What stands where a row of names of watchers is expected is none."""


class BadOffers(WayError):
    """Offers are no dict of few watches (-1), or this key or its price is wrong."""


class BadPrice(WayError):
    """What stands where a price is expected is none."""


class BadPart(WayError):
    """What stands where a part of a far word is expected is none."""


class BadTimes(WayError):
    """What is to tell how many times is not within its bounds."""


class BadLengths(WayError):
    """Lengths are no row (-1), or the item with this index is no length."""


class BadKnown(WayError):
    """Known pairs are no dict (-1), or this key or its row of pairs is wrong."""


class BadSigns(WayError):
    """What stands where signs are expected is none."""


class BadMoves(WayError):
    """Moves are no row (-1), or the row with this index is wrong."""


class BadEnds(WayError):
    """What stands where an ascending row of states is expected is none."""


class BadTexts(WayError):
    """Texts are no row (-1), or the item with this index is no text."""


class BadTongue(WayError):
    """What stands where a tongue is expected is none."""


class BadMap(WayError):
    """What stands where a map between the reckonings is expected is none."""


class BadTies(WayError):
    """Ties are no row (-1), or the item with this index is no tie."""


class BadMenu(WayError):
    """A menu is no row (-1), or the item with this index is wrong."""


class NotTold(WayError):
    """The word is not told; the value is a cut that shows it."""


class TooMany(WayError):
    """More would come of it than the document lets."""

    def __init__(self):
        WayError.__init__(self, None)


class NothingDone(WayError):
    """There is no deed that could be taken back."""

    def __init__(self):
        WayError.__init__(self, None)
