package door_test

import (
	"testing"

	"overlay/api"
	"overlay/door"
)

// reading is what a control is told in a tick, and the command that it gives.
type reading struct {
	door    int
	block   bool
	command int
}

// expectRun lets an idle door open in tick 0, and compares the commands; it returns the last state.
func expectRun(t *testing.T, c api.Car, l []reading) api.DoorState {
	t.Helper()
	var s api.DoorState
	for tick, x := range l {
		next, command := door.Step(c, s, x.door, x.block, tick == 0)
		if command != x.command {
			t.Errorf("tick %d, %+v: got command %d, want %d", tick, s, command, x.command)
		}
		s = next
	}
	return s
}

// The chapter's example, in which the door is open in tick 10.
func TestExample(t *testing.T) {
	l := []reading{{closed, false, toOpen}}
	for range 9 {
		l = append(l, reading{moving, false, toOpen})
	}
	l = append(l, reading{open, false, none}, reading{open, false, none}, reading{open, false, none}, reading{open, false, toClose})
	if s := expectRun(t, plan(10, 3, 20), l); s != state(shutting, 0, 4, false, 0) {
		t.Errorf("behind tick 13: got %+v", s)
	}
}

// A door in which somebody stands again and again reopens, and is nudged in the end.
func TestRun(t *testing.T) {
	l := []reading{
		{closed, false, toOpen}, {moving, false, toOpen}, {open, false, none}, {open, true, none}, {open, true, none}, {open, false, toClose},
		{moving, true, toOpen}, {moving, true, toOpen}, {open, true, none}, {open, false, none}, {open, false, toClose},
		{moving, true, toOpen}, {open, true, none}, {open, true, toNudge}, {moving, true, toNudge}, {moving, false, toNudge}, {open, true, toNudge},
	}
	c := plan(3, 2, 11)
	if s := expectRun(t, c, l); s != state(shutting, 3, 15, true, 2) || door.Late(c, s) {
		t.Errorf("behind tick 16: got %+v", s)
	}
	l = append(l, reading{moving, true, toNudge})
	if s := expectRun(t, c, l); !door.Late(c, s) {
		t.Errorf("behind tick 17: %+v is not late", s)
	}
	l = append(l, reading{closed, true, none}, reading{closed, true, none})
	if s := expectRun(t, c, l); s != (api.DoorState{}) {
		t.Errorf("behind tick 19: got %+v", s)
	}
}

// R7: a door that never opens, one that never closes, and one that opens again for ever.
func TestCountersStay(t *testing.T) {
	c, impatient := plan(10000, 1, 10000), plan(1, 1, 1)
	never, stuck, again := state(opening, 0, 0, false, 0), state(shutting, 0, 1, false, 0), state(shutting, 0, 1, false, 0)
	patient := plan(10000, 1, most) // Since stays there, and so this car is never late
	for tick := 1; tick <= most+3; tick++ {
		never, _ = door.Step(c, never, moving, false, false)
		stuck, _ = door.Step(impatient, stuck, moving, false, false)
		for _, d := range []int{moving, open, open} {
			again, _ = door.Step(patient, again, d, again.Stage == shutting, false)
		}
		if never.Time != min(tick, most) || door.Late(c, never) != (tick > 10000) {
			t.Fatalf("tick %d: %+v is late: %t", tick, never, door.Late(c, never))
		}
	}
	if stuck != state(shutting, most, most, true, 0) || again != state(shutting, 0, most, false, most) {
		t.Errorf("in the end: got %+v and %+v", stuck, again)
	}
}

// P12.3: ticks of which nothing is known count for Dwell, Hold and Travel.
func TestSkipped(t *testing.T) {
	c := plan(2, 4, 9)
	s := state(waiting, 0, 1, false, 0)
	for range 3 {
		s = door.Skip(s)
	}
	if _, command := door.Step(c, s, open, false, false); command != toClose {
		t.Errorf("behind 3 ticks: got command %d", command)
	}
	for range 5 {
		s = door.Skip(s)
	}
	if _, command := door.Step(c, s, open, true, false); command != toNudge {
		t.Errorf("behind 8 ticks: got command %d", command)
	}
	if s = state(opening, 2, 0, false, 0); door.Late(c, s) || !door.Late(c, door.Skip(s)) {
		t.Errorf("%+v and %+v: late %t and %t", s, door.Skip(s), door.Late(c, s), door.Late(c, door.Skip(s)))
	}
}

// position is where a door is in a cycle; all but the state is counted beside it.
type position struct {
	s       api.DoorState
	tick    int // since it began to open
	first   int // the tick in which it was first open; -1: none
	command int // the last one
	row     int // the tick in which the row of this command began
}

// readings are all that can be reported.
func readings() []reading {
	var l []reading
	for _, d := range []int{moving, open, closed} {
		l = append(l, reading{door: d}, reading{door: d, block: true})
	}
	return l
}

// everyCycle goes through all cycles of a car, up to a number of ticks: may tells what the door can report, and look is
// called for what happens then.
func everyCycle(c api.Car, ticks int, may func(p position, x reading) bool, look func(p position, x reading, next position)) {
	s, command := door.Step(c, api.DoorState{}, closed, false, true)
	now := []position{{s: s, first: -1, command: command}}
	for range ticks {
		seen := map[position]bool{}
		var then []position
		for _, p := range now {
			for _, x := range readings() {
				if !may(p, x) {
					continue
				}
				next := p.after(c, x)
				look(p, x, next)
				if next.s.Stage != idle && !seen[next] {
					seen[next] = true
					then = append(then, next)
				}
			}
		}
		now = then
	}
}

func (p position) after(c api.Car, x reading) position {
	next := p
	next.tick++
	next.s, next.command = door.Step(c, p.s, x.door, x.block, false)
	if p.first < 0 && x.door == open {
		next.first = next.tick
	}
	if next.command != p.command {
		next.row = next.tick
	}
	return next
}

// smallCars are cars with the shortest times.
func smallCars() []api.Car {
	var l []api.Car
	for travel := 1; travel <= 3; travel++ {
		for hold := 1; hold <= 6; hold++ {
			for dwell := 1; dwell <= hold; dwell++ {
				l = append(l, plan(travel, dwell, hold))
			}
		}
	}
	return l
}

// From Hold ticks behind the first opening on, the door is nudged until it is closed, whatever it reports and whatever
// stands in it; only if it is open again in that very tick, it is nudged from the next one on, as the table says.
func TestNudged(t *testing.T) {
	for _, c := range smallCars() {
		everyCycle(c, c.Hold+8, func(position, reading) bool { return true }, func(p position, x reading, next position) {
			behind := next.tick - next.first
			if next.first < 0 || behind < c.Hold {
				if next.command == toNudge {
					t.Fatalf("%+v: from %+v with %+v the door is nudged too soon", c, p, x)
				}
				return
			}
			reopened := behind == c.Hold && p.command == toOpen && x.door == open && next.command == none
			over := p.command != toOpen && x.door == closed && next.s.Stage == idle
			if next.command != toNudge && !reopened && !over {
				t.Fatalf("%+v: from %+v with %+v, %d ticks behind the first opening: got %+v", c, p, x, behind, next)
			}
		})
	}
}

// keepsTimes reports whether a door is open and closed in time: at most Travel ticks behind the first command of a row.
func keepsTimes(c api.Car) func(p position, x reading) bool {
	return func(p position, x reading) bool {
		if p.tick+1 < p.row+c.Travel {
			return true
		}
		switch p.command {
		case toOpen:
			return x.door == open
		case toClose, toNudge:
			return x.door == closed
		}
		return true
	}
}

// A door that keeps its times is idle again in time, and never late.
func TestKeepsTimes(t *testing.T) {
	for _, c := range smallCars() {
		longest := 2*c.Travel + c.Hold + 2
		everyCycle(c, longest+1, keepsTimes(c), func(p position, x reading, next position) {
			if door.Late(c, next.s) {
				t.Fatalf("%+v: from %+v with %+v: %+v is late", c, p, x, next)
			}
			if next.s.Stage != idle && next.tick >= longest {
				t.Fatalf("%+v: the door is not idle behind %d ticks: %+v", c, next.tick, next)
			}
		})
	}
}
