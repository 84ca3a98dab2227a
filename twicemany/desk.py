"""The desk, at which several hands call deals and undo their own ([56] to [58], [70], [71])."""

from twicemany.audits import audit
from twicemany.dealing import fits_one_step, one_step, steps
from twicemany.deals import indexes_of, records_of
from twicemany.deskrows import row_read
from twicemany.errors import BadHand, Broken, Changed, NothingToRedo, NothingToUndo, Refused, TooWide
from twicemany.formulas import broken_keeps
from twicemany.houses import do_steps, worths_of
from twicemany.schemas import is_name

MOST_KEPT = 50


class Desk:
    """A house, and the calls of each hand that can be undone or done again.

    A kept call is a list of triples of a record that it changed, its old number and its new one; the last
    one of done, and of undone, is the one whose turn it is.
    """

    def __init__(self, house):
        self.house = house
        self.done = {}
        self.undone = {}

    def do(self, hand, deal, args):
        """Call a deal; returned is whether something changed."""
        check_hand(hand)
        told = steps(self.house.bank, self.house.book, deal, args)
        if told == ():
            return False
        ahead = self.worths()
        do_steps(self.house.bank, told)
        behind = self.worths()
        kept = [(record, old, behind[record]) for record, old in enumerate(ahead) if old != behind[record]]
        self.done[hand] = (self.done.get(hand, []) + [kept])[-MOST_KEPT:]
        self.undone[hand] = []
        return True

    def undo(self, hand):
        """Take back the hand's last call that is not undone."""
        check_hand(hand)
        done = self.done.get(hand, [])
        if done == []:
            raise NothingToUndo(hand)
        self.turn(hand, [(record, new, old) for record, old, new in done[-1]])
        self.undone[hand].append(done.pop())

    def redo(self, hand):
        """Do again the call of the hand that was undone last."""
        check_hand(hand)
        undone = self.undone.get(hand, [])
        if undone == []:
            raise NothingToRedo(hand)
        self.turn(hand, undone[-1])
        self.done[hand].append(undone.pop())

    def turn(self, hand, changes):
        """Give records other numbers in one step, if each has the one that it is to have ahead of it."""
        bank, book = self.house.bank, self.house.book
        worths = list(self.worths())
        for record, ahead, behind in changes:
            if worths[record] != ahead:
                raise Changed(records_of(book[0])[record][0])
            worths[record] = behind
        records = [record for record, _, _ in changes]
        if not fits_one_step(bank, book[0], records):
            raise TooWide(hand)
        broken = broken_keeps(book, worths)
        if broken != []:
            raise Broken(broken[0])
        do_steps(bank, (one_step(book[0], records, worths),))

    def worths(self):
        """The numbers of all records."""
        return worths_of(self.house.bank, self.house.book[0])

    def ask(self, question):
        """The answer to a question of all worths."""
        return audit(self.house.book, self.worths(), question)

    def row(self, text):
        """The answer to a row of a text, which is done or asked."""
        try:
            return self.answer(row_read(self.house.book, text))
        except Refused as error:
            return "refused: " + error.name + " " + str(error.what)

    def answer(self, told):
        """Do or ask what a row was read as; the answer is a text."""
        word = told[0]
        if word == "show":
            return str(self.worths()[indexes_of(self.house.book[0])[told[1]]])
        if word == "audit":
            return answer_text(self.ask(told[1]))
        if word == "does":
            return "done" if self.do(told[1], told[2], told[3]) else "nothing"
        if word == "undo":
            self.undo(told[1])
        else:
            self.redo(told[1])
        return "done"


def check_hand(hand):
    """Refuse what is no name."""
    if not is_name(hand):
        raise BadHand(hand)


def answer_text(answer):
    """The text of what an audit told."""
    if not isinstance(answer, tuple):
        return str(answer)
    return "none" if answer == () else " ".join([str(number) for number in answer])
