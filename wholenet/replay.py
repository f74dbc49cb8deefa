"""Logs: replaying their entries, and the losses of their steps."""

from wholenet.errors import BadEntry
from wholenet.losses import loss_of
from wholenet.nets import is_net, outputs
from wholenet.numbers import MOST_WEIGHT, UNIT, are_within, is_from, is_whole
from wholenet.training import batch_gradients, is_example, no_speeds, trained

MOST_ENTRIES = 10000
MOST_EXAMPLES = 1000
MOST_BATCH = 64
# 2 to the 40.
MOST_STEPS = 1099511627776
LOSSES = ("squares", "margins")
# The entries that may stand behind the first one, and how many parts they have, their kind counted.
KINDS = ("data", "step", "freeze", "thaw", "check")
PARTS = {"data": 2, "step": 5, "freeze": 2, "thaw": 2, "check": 1}


def is_pair(thing):
    """Tells if this is a tuple of two parts."""
    return isinstance(thing, tuple) and len(thing) == 2


def are_weighed_speeds(layer, thing):
    """Tells if these are speeds of a dense or conv."""
    if not is_pair(thing) or not are_within(thing[1], len(layer[2]), MOST_WEIGHT):
        return False
    rows = thing[0]
    if not isinstance(rows, tuple) or len(rows) != len(layer[1]):
        return False
    return all([are_within(speeds, len(row), MOST_WEIGHT) for row, speeds in zip(layer[1], rows)])


def are_layer_speeds(layer, thing):
    """Tells if these are speeds of the layer."""
    if layer[0] in ("dense", "conv"):
        return are_weighed_speeds(layer, thing)
    if layer[0] in ("sum", "fork"):
        return is_pair(thing) and are_speeds(layer[1], thing[0]) and are_speeds(layer[2], thing[1])
    return isinstance(thing, tuple) and len(thing) == 0


def are_speeds(layers, thing):
    """Tells if this is a tuple of speeds of the layers."""
    if not isinstance(thing, tuple) or len(thing) != len(layers):
        return False
    return all([are_layer_speeds(layer, speeds) for layer, speeds in zip(layers, thing)])


def are_examples(net, thing, most):
    """Tells if this is a tuple of at most so many examples for the net."""
    return isinstance(thing, tuple) and len(thing) <= most and all(is_example(net, example) for example in thing)


def is_layer_index(net, thing):
    """Tells if this is the index of a layer of the net."""
    return is_from(thing, 0, len(net[2]) - 1)


def are_frozen(net, thing):
    """Tells if this is a tuple of indices of layers, ascending and none twice."""
    if not isinstance(thing, tuple) or not all(is_layer_index(net, index) for index in thing):
        return False
    return all([one < other for one, other in zip(thing, thing[1:])])


def is_state(thing):
    """Tells if this is a state of training."""
    if not isinstance(thing, tuple) or len(thing) != 6:
        return False
    kind, net, speeds, examples, frozen, steps = thing
    if kind != "state" or not is_net(net) or not are_speeds(net[2], speeds):
        return False
    return are_examples(net, examples, MOST_EXAMPLES) and are_frozen(net, frozen) and is_from(steps, 0, MOST_STEPS)


def is_data(state, entry):
    """Tells if a data entry can be applied."""
    kind, net, speeds, examples, frozen, steps = state
    return are_examples(net, entry[1], MOST_EXAMPLES - len(examples))


def has_target(example, loss):
    """Tells if the target of an example is one for the loss."""
    return isinstance(example[1], tuple) == (loss == "squares")


def is_batch(examples, loss, thing):
    """Tells if this is a batch of examples with targets for the loss."""
    if not isinstance(thing, tuple) or not 1 <= len(thing) <= MOST_BATCH:
        return False
    if not all([is_from(index, 0, len(examples) - 1) for index in thing]):
        return False
    return all([has_target(examples[index], loss) for index in thing])


def is_step(state, entry):
    """Tells if a step can be made."""
    kind, loss, batch, rate, drag = entry
    if loss not in LOSSES or not is_batch(state[3], loss, batch):
        return False
    return is_from(rate, 0, UNIT) and is_from(drag, 0, UNIT) and state[5] < MOST_STEPS


def is_for_a_layer(state, entry):
    """Tells if a layer can be frozen or thawed."""
    return is_layer_index(state[1], entry[1])


def is_check(state, entry):
    """Tells if a check can be applied, in which nothing can be wrong."""
    return True


FITS = {"data": is_data, "step": is_step, "freeze": is_for_a_layer, "thaw": is_for_a_layer, "check": is_check}


def with_data(state, entry):
    """The state with further examples."""
    return state[:3] + (state[3] + entry[1],) + state[4:]


def behind_step(state, entry):
    """The state behind a step."""
    word, net, speeds, examples, frozen, steps = state
    kind, loss, batch, rate, drag = entry
    gradients = batch_gradients(net, examples, loss, batch)
    net, speeds = trained(net, speeds, gradients, len(batch), rate, drag, frozen)
    return word, net, speeds, examples, frozen, steps + 1


def with_frozen(state, entry):
    """The state with a layer frozen."""
    frozen = [index for index in state[4] if index != entry[1]]
    return state[:4] + (tuple(sorted(frozen + [entry[1]])),) + state[5:]


def with_thawed(state, entry):
    """The state with a layer thawed."""
    return state[:4] + (tuple([index for index in state[4] if index != entry[1]]),) + state[5:]


def as_it_is(state, entry):
    """The state behind an entry that changes nothing."""
    return state


CHANGES = {"data": with_data, "step": behind_step, "freeze": with_frozen, "thaw": with_thawed, "check": as_it_is}


def is_entry(state, entry):
    """Tells if this is an entry that can be applied to the state."""
    if not isinstance(entry, tuple) or len(entry) == 0 or entry[0] not in KINDS:
        return False
    fits = FITS[entry[0]]
    return len(entry) == PARTS[entry[0]] and fits(state, entry)


def first_state(entry, place):
    """The state that the first entry of a log gives."""
    if is_pair(entry):
        kind, thing = entry
        if kind == "begin" and is_net(thing):
            return "state", thing, no_speeds(thing), (), (), 0
        if kind == "state" and is_state(thing):
            return thing
    raise BadEntry(place)


def go_on(state, entries, place):
    """The state behind further entries, the first of which has the index place in the log."""
    for at, entry in enumerate(entries, start=place):
        if at >= MOST_ENTRIES or not is_entry(state, entry):
            raise BadEntry(at)
        change = CHANGES[entry[0]]
        state = change(state, entry)
    return state


def begun(log):
    """The state of the first entry of a log."""
    if len(log) == 0:
        raise BadEntry(0)
    return first_state(log[0], 0)


def replay(log):
    """The state of a log."""
    return go_on(begun(log), log[1:], 1)


def compact(log):
    """A log of one entry that replays to the same."""
    return (("state", replay(log)),)


def step_loss(state, entry):
    """The sum of the losses of the batch of a step, ahead of it."""
    kind, loss, batch, rate, drag = entry
    pairs = [state[3][index] for index in batch]
    return sum([loss_of(loss, outputs(state[1], inputs), target)[0] for inputs, target in pairs])


def losses(log):
    """The tuple of the losses of the steps of a log."""
    state = begun(log)
    found = []
    for at, entry in enumerate(log[1:], start=1):
        behind = go_on(state, (entry,), at)
        if entry[0] == "step":
            found.append(step_loss(state, entry))
        state = behind
    return tuple(found)


def audit(log, told):
    """The index of the first step whose loss is not the told one, -1 if all losses are told and no other one."""
    found = losses(log)
    steps = [at for at, entry in enumerate(log) if entry[0] == "step"]
    for at, (place, loss) in enumerate(zip(steps, found)):
        if at >= len(told) or not is_whole(told[at]) or told[at] != loss:
            return place
    return len(log) if len(told) > len(found) else -1
