"""Films: a face, and changes of it by ticks."""

from farpanes.changes import change_of, cost_of_parts, need_change, parts_done
from farpanes.errors import BadChange, BadFace, BadFilm
from farpanes.faces import need_face, size_of
from farpanes.kinds import is_tuple_of, is_within

MOST_TICK = 9999
MOST_TIMES = 9


def need_film(film):
    """Raise BadFilm of whatever is no film."""
    if not is_tuple_of(film, 3):
        raise BadFilm("a film is a triple")
    face, length, changes = film
    need_film_face(face)
    need_length(length)
    if not isinstance(changes, tuple):
        raise BadFilm("the changes are a tuple")
    need_pairs(changes, 1, length)
    for tick, change in changes:
        face = next_face(face, change)


def need_film_face(face):
    """Raise BadFilm of whatever is no face."""
    try:
        need_face(face)
    except BadFace:
        raise BadFilm("this is no face") from None


def need_length(length):
    """Raise BadFilm of whatever is not how long a film may go on."""
    if not is_within(length, 0, MOST_TICK):
        raise BadFilm("a film goes on for 0 to 9999 ticks")


def need_pairs(pairs, least, most):
    """Raise BadFilm unless these are pairs, the first of each a tick from least to most, and ticks rise."""
    for pair in pairs:
        if not is_tuple_of(pair, 2):
            raise BadFilm("what stands at a tick is a pair")
        if not is_within(pair[0], least, most):
            raise BadFilm("this is no tick, or ticks do not rise")
        least = pair[0] + 1


def next_face(face, change):
    """The face changed; BadFilm, if that is no change or can't be done."""
    try:
        need_change(change)
        return parts_done(face, change)
    except BadChange:
        raise BadFilm("the change is none, or can't be done there") from None


def face_at(film, tick):
    """The face of a film at a tick."""
    need_film(film)
    if not is_within(tick, 0, film[1]):
        raise BadFilm("the film has no such tick")
    return face_up_to(film, tick)


def face_up_to(film, last):
    """The first face with all changes up to a tick done, of a film that was looked at ahead."""
    face = film[0]
    for tick, change in film[2]:
        if tick <= last:
            face = parts_done(face, change)
    return face


def cost_of(film):
    """What all changes of a film cost together."""
    need_film(film)
    return sum([cost_of_parts(change) for tick, change in film[2]])


def filmed(pairs):
    """The film that has these faces from these ticks on."""
    need_faces_by_ticks(pairs)
    changes = []
    face = pairs[0][1]
    for tick, later in pairs:
        if later != face:
            changes.append((tick, change_of(face, later)))
        face = later
    return pairs[0][1], pairs[-1][0], tuple(changes)


def need_faces_by_ticks(pairs):
    """Raise BadFilm of whatever is no list of ticks and faces of which a film is made."""
    if not isinstance(pairs, list) or not pairs:
        raise BadFilm("a film is made of a list of pairs, of one at least")
    need_pairs(pairs, 0, MOST_TICK)
    if pairs[0][0] != 0:
        raise BadFilm("the first tick is 0")
    for tick, face in pairs:
        need_film_face(face)
        if size_of(face) != size_of(pairs[0][1]):
            raise BadFilm("all faces have one size")


def cut(film, first, last):
    """The film from a tick to a later one, or the same."""
    need_film(film)
    if not is_within(first, 0, film[1]) or not is_within(last, first, film[1]):
        raise BadFilm("the film has no such stretch")
    kept = [(tick - first, list(change)) for tick, change in film[2] if first < tick <= last]
    return face_up_to(film, first), last - first, tuple(kept)


def spliced(one, other):
    """One film, which goes on as another one of its size."""
    need_film(one)
    need_film(other)
    if size_of(one[0]) != size_of(other[0]):
        raise BadFilm("the films have unlike sizes")
    seam = one[1] + 1
    length = seam + other[1]
    need_length(length)
    changes = moved(one[2], 1, 0)
    end = face_up_to(one, one[1])
    if end != other[0]:
        changes.append((seam, change_of(end, other[0])))
    changes.extend(moved(other[2], 1, seam))
    return one[0], length, tuple(changes)


def slowed(film, by):
    """The film, so many times as long."""
    need_film(film)
    if not is_within(by, 1, MOST_TIMES):
        raise BadFilm("a film is slowed by 1 to 9")
    length = film[1] * by
    need_length(length)
    return film[0], length, tuple(moved(film[2], by, 0))


def moved(changes, by, start):
    """The changes, each as a list of its own, with ticks that are so many times as great, and greater by start."""
    return [(tick * by + start, list(change)) for tick, change in changes]
