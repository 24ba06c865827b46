package door_test

import (
	"math"
	"testing"

	"overlay/api"
	"overlay/door"
)

// told is all that a row of the table of P12.2 looks at.
type told struct {
	s           api.DoorState
	door        int
	block, want bool
	dwell       int
	since       int
	late        bool
}

// rule is a row of the table: the first one whose stage and condition fit says what happens.
type rule struct {
	stage   int
	fits    func(x told) bool
	next    func(x told) api.DoorState
	command int
}

// more is a counter one tick later.
func more(count int) int {
	if count < most {
		return count + 1
	}
	return count
}

func otherwise(told) bool { return true }

func late(x told) bool { return x.late }

func zero(told) api.DoorState { return api.DoorState{} }

// rules are the rows of the table, in its order.
func rules() []rule {
	return []rule{
		{idle, func(x told) bool { return x.want }, func(told) api.DoorState { return api.DoorState{Stage: opening} }, toOpen},
		{idle, otherwise, func(x told) api.DoorState { return x.s }, none},
		{opening, func(x told) bool { return x.door == open }, func(x told) api.DoorState {
			if x.since < 1 {
				x.since = 1
			}
			return api.DoorState{Stage: waiting, Since: x.since, Nudge: x.s.Nudge, Cycles: x.s.Cycles}
		}, none},
		{opening, late, nudging, toNudge},
		{opening, otherwise, goesOn, toOpen},
		{waiting, late, nudging, toNudge},
		{waiting, func(x told) bool { return x.s.Time+1 >= x.dwell && !x.block }, func(x told) api.DoorState {
			return api.DoorState{Stage: shutting, Since: x.since, Nudge: x.s.Nudge, Cycles: x.s.Cycles}
		}, toClose},
		{waiting, otherwise, goesOn, none},
		{shutting, func(x told) bool { return x.door == closed }, zero, none},
		{shutting, late, func(x told) api.DoorState {
			next := nudging(x)
			if x.s.Nudge {
				next.Time = more(x.s.Time)
			}
			return next
		}, toNudge},
		{shutting, func(x told) bool { return x.block }, func(x told) api.DoorState {
			return api.DoorState{Stage: opening, Since: x.since, Nudge: x.s.Nudge, Cycles: more(x.s.Cycles)}
		}, toOpen},
		{shutting, otherwise, goesOn, toClose},
	}
}

func nudging(x told) api.DoorState {
	return api.DoorState{Stage: shutting, Since: x.since, Nudge: true, Cycles: x.s.Cycles}
}

func goesOn(x told) api.DoorState {
	return api.DoorState{Stage: x.s.Stage, Time: more(x.s.Time), Since: x.since, Nudge: x.s.Nudge, Cycles: x.s.Cycles}
}

// byRules is P12.2 for a state.
func byRules(l []rule, c api.Car, s api.DoorState, door int, block, want bool) (api.DoorState, int) {
	x := told{s: s, door: door, block: block, want: want, dwell: c.Dwell}
	if s.Since != 0 {
		x.since = more(s.Since)
	}
	x.late = x.since > c.Hold
	for _, r := range l {
		if r.stage == s.Stage && r.fits(x) {
			return r.next(x), r.command
		}
	}
	panic("no row")
}

func expectRules(t *testing.T, c api.Car, l []api.DoorState) {
	t.Helper()
	table := rules()
	for _, s := range l {
		for _, d := range doors {
			for given := range 4 {
				block, wanted := given&1 == 1, given&2 == 2
				next, command := door.Step(c, s, d, block, wanted)
				want, wantCommand := byRules(table, c, s, d, block, wanted)
				if next != want || command != wantCommand {
					t.Fatalf("%+v: Step of %+v, door %d, block %t, want %t: got %+v and %d, want %+v and %d", c, s, d, block, wanted, next, command, want, wantCommand)
				}
				if !door.IsState(next) {
					t.Fatalf("%+v: behind Step of %+v, door %d, block %t, want %t is no state: %+v", c, s, d, block, wanted, next)
				}
			}
		}
	}
}

// P12.2: the table for small cars, with counters around their times and at their ends.
func TestSmallCars(t *testing.T) {
	for travel := 1; travel <= 3; travel++ {
		for _, x := range [][2]int{{1, 1}, {1, 2}, {1, 9}, {2, 3}, {3, 3}, {3, 8}, {4, 7}, {9, 10}} {
			expectRules(t, plan(travel, x[0], x[1]), someStates())
		}
	}
}

// P12.2: the table for cars with long times, and with times that no car of a building has.
func TestOtherCars(t *testing.T) {
	for _, dwell := range []int{10000, most - 1, most, most + 1, most + 2, 0, -1, math.MaxInt, math.MinInt} {
		for _, hold := range []int{10000, most - 1, most, most + 1, 0, -1, math.MaxInt, math.MinInt} {
			counts := []int{0, 1, 2, 9998, 9999, 10000, 10001, most - 2, most - 1, most}
			expectRules(t, plan(10000, dwell, hold), states(counts, counts, []int{0, most}))
		}
	}
}
