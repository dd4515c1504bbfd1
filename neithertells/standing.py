"""How a house stands between two deeds. It is never changed: what happens makes a new one, so old ones can be kept."""

from neithertells.machines import OTHER_SIDE, Badge, Teller, new_machine


class Standing:
    """The clock, the sets, the machines present, the next number, and the greatest integer that positions avoid."""

    def __init__(self, now, sets, machines, ahead, mark):
        self.now = now
        self.sets = sets
        self.machines = machines
        self.ahead = ahead
        self.mark = mark

    def with_arrival(self, program, side):
        """Return what stands when a machine has arrived."""
        badge = Badge(self.ahead, program, side, len(self.machines))
        machine = new_machine(badge, self.now, self.mark + 1, self.sets[side])
        mark = self.mark + 1 if isinstance(machine, Teller) else self.mark
        return Standing(self.now, self.sets, (*self.machines, machine), self.ahead + 1, mark)

    def without(self, number):
        """Return what stands when a machine has been withdrawn."""
        machines = [machine for machine in self.machines if machine.badge.number != number]
        return Standing(self.now, self.sets, tuple(machines), self.ahead, self.mark)

    def at_clock(self, now):
        """Return what stands at a later clock if no machine acts until then."""
        return Standing(now, self.sets, self.machines, self.ahead, self.mark)

    def barred(self, machine):
        """Return the ascending list of the integers that machines that precede this one guard in its side."""
        side = machine.badge.side
        return sorted({integer for integer, number in self.guards(side) if number < machine.badge.number})

    def guards(self, side):
        """Return the sorted list of the integers that are guarded in a set, each with the number of the machine."""
        rows = []
        for machine in self.machines:
            rows.extend([(integer, machine.badge.number) for integer in machine.guarded(side)])
        return sorted(rows)

    def next_act(self):
        """Return the next act, or None if there is none."""
        best = None
        for machine in self.machines:
            ready = machine.ready(self.now, self.barred(machine))
            # Of several machines at the same clock, the one that arrived first acts.
            if ready is not None and (best is None or ready[0] < best[0]):
                best = (ready[0], machine.badge.number, ready[1])
        return best

    def after(self, act):
        """Return what stands directly after the next act and all starts that it causes."""
        now, number, integer = act
        actor = [machine for machine in self.machines if machine.badge.number == number][0]
        side = actor.goal()
        sets = {**self.sets, side: tuple(sorted([*self.sets[side], integer]))}
        actor = actor.acted(now, integer)
        mark = max([self.mark, integer, *actor.guarded(actor.badge.side)])
        changed = []
        for machine in self.machines:
            if machine.badge.number > number and isinstance(machine, Teller):
                mark += 1
                changed.append(machine.started(now, number, mark, sets[machine.badge.side]))
            elif machine.badge.number == number:
                changed.append(actor.told(side, integer, sets[side]))
            else:
                changed.append(machine.told(side, integer, sets[side]))
        return Standing(now, sets, tuple(changed), self.ahead, mark)

    def sight(self):
        """Return all that is compared between two houses."""
        rows = [self.machine_sight(machine) for machine in self.machines]
        return (self.now, self.sets["left"], self.sets["right"], self.ahead, self.mark, rows)

    def machine_sight(self, machine):
        """Return all that is compared between two machines."""
        badge = machine.badge
        position = machine.position if isinstance(machine, Teller) else None
        guarded = [machine.guarded(side) for side in OTHER_SIDE]
        satisfied = machine.is_satisfied(self.now)
        return (
            badge.number, badge.program, badge.side, badge.level,
            position, machine.begun, machine.done, guarded, satisfied,
        )


def empty_standing():
    """Return how a new house stands."""
    return Standing(0, {side: () for side in OTHER_SIDE}, (), 0, -1)
