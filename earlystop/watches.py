"""Watches: a rule gone along look by look and lot by lot."""

from earlystop.errors import NoBack, NoLook
from earlystop.fractions import is_less, is_share, plus
from earlystop.kinds import ONE
from earlystop.looks import is_face, noughts, one_more
from earlystop.rules import LOOKS_ON, rule_faces


class Watch:
    def __init__(self, rule):
        self.says_of = dict(rule)
        self.faces = rule_faces(rule)
        self.told = []
        # All stands are kept, not the last alone: what is taken back is then just as it was.
        self.stands = []
        self.come_to(noughts(self.faces))

    def come_to(self, counts):
        """A stand is the counts, and the place in their says that is so, None where a lot is due."""
        says = self.says_of[counts]
        self.stands.append((counts, says.index(ONE) if ONE in says else None))

    def look(self, face):
        self.refuse_unless("look")
        if not is_face(self.faces, face):
            raise NoLook("face")
        self.come_to(one_more(self.seen(), face))
        self.told.append(("look", face))

    def lot(self, share):
        self.refuse_unless("lot")
        if not is_share(share) or share == ONE:
            raise NoLook("share")
        counts = self.seen()
        self.stands.append((counts, drawn(self.says_of[counts], share)))
        self.told.append(("lot", share))

    def refuse_unless(self, word):
        now = self.due()
        if now == "":
            raise NoLook("said")
        if now != word:
            raise NoLook(now)

    def back(self):
        if len(self.told) == 0:
            raise NoBack("nothing was told")
        self.told.pop()
        self.stands.pop()

    def due(self):
        place = self.stands[-1][1]
        if place is None:
            return "lot"
        return "look" if place == LOOKS_ON else ""

    def seen(self):
        return self.stands[-1][0]

    def way(self):
        return None if self.due() != "" else self.stands[-1][1] - 1

    def trail(self):
        return list(self.told)


def drawn(says, share):
    """The first place up to which the sum of the says is above the share."""
    place = 0
    up_to = says[0]
    while not is_less(share, up_to):
        place = place + 1
        up_to = plus(up_to, says[place])
    return place
