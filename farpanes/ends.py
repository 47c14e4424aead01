"""Both ends of a road: one tells faces, the other has them, whatever the road does in between."""

from farpanes.changes import change_of, changed, need_change
from farpanes.errors import BadChange, BadPacket
from farpanes.faces import need_face, need_face_like
from farpanes.kinds import is_tuple_of, is_whole, is_within

MOST_STATES = 6


def need_packet(packet):
    """Raise BadPacket of whatever is no packet with a change."""
    if not is_tuple_of(packet, 4):
        raise BadPacket("a packet has four parts")
    start, to, keep, change = packet
    if not all([is_whole(number) and number >= 0 for number in (start, to, keep)]):
        raise BadPacket("a state's number is a whole number from 0 on")
    if keep > start or start >= to:
        raise BadPacket("the numbers of a packet do not rise")
    try:
        need_change(change)
    except BadChange:
        raise BadPacket("the packet has no change") from None


class Teller:
    """The end that has the face now, and tells changes to it from a state that is known to be there."""

    def __init__(self, face):
        need_face(face)
        self.now = face
        self.states = {0: face}
        self.known = 0
        self.last = 0

    def show(self, face):
        """Have another face now."""
        need_face_like(face, self.now)
        self.now = face

    def tick(self):
        """The packet to be sent, None if the last state is known to be there."""
        if self.now != self.states[self.last]:
            self.last += 1
            self.states[self.last] = self.now
        if len(self.states) > MOST_STATES:
            least = min([number for number in self.states if number > self.known])
            del self.states[least]
        if self.last == self.known:
            return None
        change = change_of(self.states[self.known], self.states[self.last])
        return self.known, self.last, self.known, change

    def heard(self, number):
        """Take the number of a state that is there, as far as it is news."""
        if not is_within(number, 0, self.last):
            raise BadPacket("there was no state with this number")
        if number > self.known and number in self.states:
            self.known = number
            self.states = {at: face for at, face in self.states.items() if at >= number}

    def is_at_rest(self):
        """Tell whether the face now is known to be there."""
        return self.last == self.known and self.states[self.last] == self.now


class Hearer:
    """The end that has the states that came, by their numbers; the greatest one is its face."""

    def __init__(self, face):
        need_face(face)
        self.states = {0: face}
        self.last = 0

    def took(self, packet):
        """Take a packet: told is the greatest number, None if the state that it begins with isn't here."""
        need_packet(packet)
        start, to, keep, change = packet
        if to > self.last:
            if start not in self.states:
                return None
            self.add_state(to, self.states[start], change)
        self.states = {at: face for at, face in self.states.items() if at >= keep or at == self.last}
        return self.last

    def add_state(self, number, face, change):
        """Have a state more, the greatest one now: a face, changed."""
        try:
            self.states[number] = changed(face, change)
        except BadChange:
            raise BadPacket("the change can't be done on that face") from None
        self.last = number

    def face(self):
        """The face of the greatest state."""
        return self.states[self.last]

    def number(self):
        """The greatest number."""
        return self.last
