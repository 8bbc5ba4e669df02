"""Which identities hold together, and which follow from others."""

from queryheld.decisions import holds
from queryheld.errors import BadIdentities
from queryheld.identities import check_identity, identities, is_identity
from queryheld.tables import all_semantics, check_semantics


def profile(semantics):
    """Return the tuple of the identities that hold under a semantics."""
    check_semantics(semantics)
    return tuple([identity for identity in identities() if holds(semantics, identity)])


def profiles():
    """Return the ascending tuple of the different profiles of all semantics."""
    return tuple(sorted({profile(semantics) for semantics in all_semantics()}))


def implies(one, other):
    """Return whether an identity holds under every semantics under which another one does."""
    return parting(one, other) is None


def parting(one, other):
    """Return the least semantics under which one identity holds and the other does not, or None."""
    check_identity(one)
    check_identity(other)
    for semantics in all_semantics():
        if holds(semantics, one) and not holds(semantics, other):
            return semantics
    return None


def semantics_with(wanted):
    """Return the ascending tuple of the semantics under which all wanted identities hold."""
    if not _are_identities(wanted):
        raise BadIdentities("not a tuple of different identities")
    return tuple([
        semantics for semantics in all_semantics() if all([holds(semantics, identity) for identity in wanted])
    ])


def _are_identities(value):
    if not isinstance(value, tuple) or not all([is_identity(part) for part in value]):
        return False
    return len(set(value)) == len(value)
