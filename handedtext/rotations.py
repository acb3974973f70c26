"""Steps round a circle of so many places: when they first come to some neighbouring places."""


def first_hit(start, step, most, modulus):
    """Return the least k from 0 on for which start + step * k is at most most by its remainder, or None."""
    least = -start % modulus
    greatest = least + most
    if least == 0 or greatest >= modulus:
        return 0
    return _first_between(step % modulus, least, greatest, modulus)


def _first_between(step, least, greatest, modulus):
    """Return the least k for which the remainder of step * k is one of some greater than 0, or None.

    The modulus is at least halved for each call within this one, so there are about a hundred at most.
    """
    if step == 0:
        return None
    if 2 * step > modulus:
        # Seen from the other side the steps are shorter.
        step, least, greatest = modulus - step, modulus - greatest, modulus - least
    many = -(-least // step)
    if step * many <= greatest:
        return many
    # The steps leap over these places in the first round; what is left open is in which round they do not.
    rounds = _first_between(-modulus % step, least % step, greatest % step, step)
    if rounds is None:
        return None
    return -(-(least + modulus * rounds) // step)
