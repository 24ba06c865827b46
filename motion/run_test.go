package motion_test

import (
	"testing"

	"overlay/api"
	"overlay/motion"
)

// The chapter's example.
func TestExample(t *testing.T) {
	next, command, arrived := motion.Step(6, state(up, 3, 4), at(5), none)
	if next != (api.Motion{}) || command != none || !arrived {
		t.Errorf("got %+v, %d and %t", next, command, arrived)
	}
}

// reading is what a control is told in a tick, and what it answers.
type reading struct {
	fb      api.Feedback
	want    int
	command int
	arrived bool
}

// expectRun lets a car with four floors do some ticks, and returns its last state.
func expectRun(t *testing.T, l []reading) api.Motion {
	t.Helper()
	var s api.Motion
	for tick, x := range l {
		next, command, arrived := motion.Step(4, s, x.fb, x.want)
		if command != x.command || arrived != x.arrived {
			t.Errorf("tick %d, %+v: got command %d and %t, want %d and %t", tick, s, command, arrived, x.command, x.arrived)
		}
		s = next
	}
	return s
}

// A car that begins between two floors goes up to the last floor and comes back by one.
func TestRun(t *testing.T) {
	l := []reading{
		{between(1), up, none, false}, {between(2), up, none, false}, {at(2), none, none, false},
		{at(2), up, up, false}, {between(2), down, up, false}, {between(3), down, up, false}, {at(3), down, none, true},
		{at(3), up, none, false}, {at(3), down, down, false}, {at(3), none, down, false}, {between(3), none, down, false},
	}
	s := expectRun(t, l)
	if s != state(down, 2, 3) || motion.Late(plan(2), s) || !motion.Late(plan(1), s) {
		t.Errorf("behind tick 10: got %+v", s)
	}
	if s = expectRun(t, append(l, reading{at(2), down, none, true})); s != (api.Motion{}) {
		t.Errorf("behind tick 11: got %+v", s)
	}
}

// R7: a car that does not arrive, and two that are never level, of one of which nothing is known.
func TestCountersStay(t *testing.T) {
	c := plan(10000)
	stuck, lost, skipped := state(up, 0, 1), state(none, 1, 0), state(none, 1, 0)
	for tick := 1; tick <= most+3; tick++ {
		stuck, _, _ = motion.Step(4, stuck, at(1), none)
		lost, _, _ = motion.Step(4, lost, between(2), up)
		skipped = motion.Skip(skipped)
		if stuck.Time != min(tick, most) || motion.Late(c, stuck) != (tick > 10000) {
			t.Fatalf("tick %d: %+v is late: %t", tick, stuck, motion.Late(c, stuck))
		}
	}
	if stuck != state(up, most, 1) || lost != state(none, most, 0) || skipped != lost {
		t.Errorf("in the end: got %+v, %+v and %+v", stuck, lost, skipped)
	}
}

// P13.3: ticks of which nothing is known count for Step, and change nothing of where a step leads.
func TestSkipped(t *testing.T) {
	s := state(down, 0, 2)
	for range 3 {
		s = motion.Skip(s)
	}
	s, command, _ := motion.Step(4, s, between(1), none)
	if s != state(down, 4, 2) || command != down || motion.Late(plan(4), s) || !motion.Late(plan(4), motion.Skip(s)) {
		t.Errorf("behind 3 ticks: got %+v and command %d", s, command)
	}
	if s, command, arrived := motion.Step(4, motion.Skip(s), at(1), none); s != (api.Motion{}) || command != none || !arrived {
		t.Errorf("behind 5 ticks: got %+v, %d and %t", s, command, arrived)
	}
	if s = motion.Skip(api.Motion{}); s != (api.Motion{}) {
		t.Errorf("a car that stands at a floor: got %+v", s)
	}
}

// Wherever a car reports to be, a step that has begun gives its command until the car is level at the neighbouring floor
// in its direction, and only there it ends.
func TestStepsEnd(t *testing.T) {
	for floors := 2; floors <= 5; floors++ {
		for floor := range floors {
			for _, want := range []int{up, down} {
				s, command, _ := motion.Step(floors, api.Motion{}, at(floor), want)
				if command == none {
					continue
				}
				neighbour := floor + map[int]int{up: 1, down: -1}[want]
				if command != want || neighbour < 0 || neighbour >= floors {
					t.Fatalf("%d floors, at floor %d, want %d: got command %d", floors, floor, want, command)
				}
				expectEnd(t, floors, s, neighbour, 4)
			}
		}
	}
}

// expectEnd goes through all that a car can report in so many ticks of a step.
func expectEnd(t *testing.T, floors int, s api.Motion, neighbour, ticks int) {
	t.Helper()
	if ticks == 0 {
		return
	}
	for floor := range floors {
		for _, fb := range []api.Feedback{at(floor), between(floor)} {
			next, command, arrived := motion.Step(floors, s, fb, none)
			switch ends := fb == at(neighbour); {
			case arrived != ends || ends && next != (api.Motion{}):
				t.Fatalf("%d floors, Step of %+v, %+v: got %+v and %t", floors, s, fb, next, arrived)
			case !ends && (command != s.Command || next.Floor != s.Floor):
				t.Fatalf("%d floors, Step of %+v, %+v: got %+v and command %d", floors, s, fb, next, command)
			case !ends:
				expectEnd(t, floors, next, neighbour, ticks-1)
			}
		}
	}
}

// A car that is level at the next floor n ticks behind the command is late if n is above Step + 1, and from the same tick
// on whichever of these ticks are known; so one that needs at most Step ticks never is.
func TestKeepsTimes(t *testing.T) {
	for step := 1; step <= 6; step++ {
		for needed := 1; needed <= 9; needed++ {
			for known := range 1 << needed {
				s, _, _ := motion.Step(4, api.Motion{}, at(1), up)
				for tick := 1; tick < needed; tick++ {
					if known>>tick&1 == 1 {
						s, _, _ = motion.Step(4, s, between(1), up)
					} else {
						s = motion.Skip(s)
					}
					if late := motion.Late(plan(step), s); late != (tick > step) {
						t.Fatalf("Step %d, %d ticks behind the command: %+v is late: %t", step, tick, s, late)
					}
				}
				s, _, arrived := motion.Step(4, s, at(2), up)
				if !arrived || motion.Late(plan(step), s) {
					t.Fatalf("Step %d, %d ticks behind the command: got %+v and %t", step, needed, s, arrived)
				}
			}
		}
	}
}
