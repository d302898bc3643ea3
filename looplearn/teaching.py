"""Teaching: what a coder is told beside its reading, and the least of it for a sign."""

from looplearn.coders import refuse_no_coder
from looplearn.errors import NoCoder, NoCounts
from looplearn.kinds import is_whole
from looplearn.signs import refuse_no_sign, sign_of
from looplearn.trees import MOST_PLACES_OF_ALL


def are_counts(thing, places):
    """Tell of anything whether it is a tuple of so many numbers from 0 on."""
    if not isinstance(thing, tuple) or len(thing) != places:
        return False
    return all([is_whole(count) and count >= 0 for count in thing])


def more_known(coder, counts):
    """Tell the coder that knows so many words more at each place."""
    place, lengths = coder
    return place, tuple([length + count for length, count in zip(lengths, counts)])


def taught(coder, counts):
    """Tell the coder that is taught so many words more at each place."""
    refuse_no_coder(coder)
    if not are_counts(counts, len(coder[1])):
        raise NoCounts("counts are a tuple of as many numbers from 0 on as there are places")
    return more_known(coder, counts)


def sign_changes(coder, place):
    """Tell how each number of words more at a place, from 0 on, changes a coder's sign."""
    _, lengths = coder
    places = len(lengths)
    sign = sign_of(coder)
    # As many words more as there are places leave the sign as it is.
    signs = [sign_of(more_known(coder, [0] * place + [more] + [0] * (places - place - 1))) for more in range(places)]
    return [[(now - ahead) % places for now, ahead in zip(later, sign)] for later in signs]


def with_one_place(least, changes):
    """Tell the least counts for each sign where one place more is taught."""
    later = {}
    for sign, (total, counts) in least.items():
        for more, change in enumerate(changes):
            changed = tuple([(number + by) % len(sign) for number, by in zip(sign, change)])
            found = total + more, (*counts, more)
            if changed not in later or found < later[changed]:
                later[changed] = found
    return later


def least_teaching(coder, sign):
    """Tell the counts of least sum, of such the least tuple, behind which a coder has a sign."""
    refuse_no_coder(coder)
    places = len(coder[1])
    if places > MOST_PLACES_OF_ALL:
        raise NoCoder(f"a coder of at most {MOST_PLACES_OF_ALL} places is due")
    refuse_no_sign(places, sign)
    # What is taught at one place changes the sign alike, whatever is taught at the others.
    # So for each sign the places can be gone through with its least sum and counts alone.
    least = {sign_of(coder): (0, ())}
    for place in range(places):
        least = with_one_place(least, sign_changes(coder, place))
    _, counts = least[sign]
    return counts
