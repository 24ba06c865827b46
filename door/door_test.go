package door_test

import (
	"math"
	"testing"

	"overlay/api"
	"overlay/door"
)

const (
	idle, opening, waiting, shutting = api.DoorIdle, api.DoorOpening, api.DoorWaiting, api.DoorShutting
	moving, open, closed             = api.DoorMoving, api.DoorOpen, api.DoorClosed
	none, toOpen, toClose, toNudge   = api.CmdNone, api.CmdOpen, api.CmdClose, api.CmdNudge
	most                             = api.MaxCount
)

// doors are what a door may report, and such as none reports: only an open and a closed one mean something.
var doors = []int{moving, open, closed, api.DoorBad, -1, 4, 256 + open, 256 + closed, 1<<32 + open, 1<<32 + closed, math.MaxInt, math.MinInt, math.MinInt + open}

// plan is a car with these times. The others mean nothing to a door, but would make a difference if they were taken for them.
func plan(travel, dwell, hold int) api.Car {
	return api.Car{Deadline: 1, Pulse: 1, Quiet: 1, Slack: 1, Step: 1, Travel: travel, Dwell: dwell, Hold: hold, Home: 1}
}

func state(stage, time, since int, nudge bool, cycles int) api.DoorState {
	return api.DoorState{Stage: stage, Time: time, Since: since, Nudge: nudge, Cycles: cycles}
}

// states are those with these counters, in all stages but the idle one; the idle state is the last one.
func states(times, sinces, cycles []int) []api.DoorState {
	var l []api.DoorState
	for _, stage := range []int{opening, waiting, shutting} {
		for _, time := range times {
			for _, since := range sinces {
				for _, n := range cycles {
					l = append(l, state(stage, time, since, false, n), state(stage, time, since, true, n))
				}
			}
		}
	}
	return append(l, api.DoorState{})
}

// someStates are states with counters at their ends and near the times of small cars.
func someStates() []api.DoorState {
	counts := []int{0, 1, 2, 3, 4, 7, 8, 9, 10, most - 1, most}
	return states(counts, counts, []int{0, 1, most - 1, most})
}

// noStates are no states: each has one field that none has, or more than one.
func noStates() []api.DoorState {
	var l []api.DoorState
	for _, stage := range []int{-1, -2, -3, 4, 5, 255, 256, 256 + opening, 1 << 32, 1<<32 + opening, 1<<32 + shutting, math.MaxInt, math.MinInt, math.MinInt + waiting} {
		l = append(l, state(stage, 0, 0, false, 0), state(stage, 1, 2, true, 3), state(stage, -1, -1, false, -1))
	}
	for _, n := range []int{-1, -2, -most, most + 1, most + 2, 1 << 32, 1<<32 + 1, math.MaxInt, math.MinInt, math.MinInt + 1} {
		for _, stage := range []int{idle, opening, waiting, shutting} {
			l = append(l, state(stage, n, 0, false, 0), state(stage, 0, n, false, 0), state(stage, 0, 0, false, n), state(stage, n, n, true, n))
			l = append(l, state(stage, n, 1, true, 2), state(stage, 1, n, true, 2), state(stage, 1, 2, true, n))
		}
	}
	for _, n := range []int{1, 2, most} {
		l = append(l, state(idle, n, 0, false, 0), state(idle, 0, n, false, 0), state(idle, 0, 0, false, n), state(idle, n, n, true, n))
	}
	return append(l, state(idle, 0, 0, true, 0))
}

// P12.1: the states, and what is none.
func TestIsState(t *testing.T) {
	for _, s := range append(someStates(), states([]int{5, most / 2}, []int{6, most / 2}, []int{7, most / 2})...) {
		if !door.IsState(s) {
			t.Errorf("IsState(%+v): got false", s)
		}
	}
	for _, s := range noStates() {
		if door.IsState(s) {
			t.Errorf("IsState(%+v): got true", s)
		}
	}
}

// P12.1: Late looks at the stage and its time only, also of what is no state.
func TestLate(t *testing.T) {
	travels := []int{1, 2, 3, 10000, most, 0, -1, math.MaxInt, math.MinInt}
	times := []int{0, 1, 2, 3, 4, 9999, 10000, 10001, most - 1, most, most + 1, -1, -2, math.MaxInt, math.MinInt}
	for _, travel := range travels {
		for _, time := range times {
			for _, stage := range []int{idle, opening, waiting, shutting, -1, 4, 1<<32 + opening, 1<<32 + shutting, math.MaxInt, math.MinInt} {
				want := (stage == opening || stage == shutting) && time > travel
				for _, s := range []api.DoorState{state(stage, time, 0, false, 0), state(stage, time, travel+1, true, travel+1), state(stage, time, -1, false, most+1)} {
					if got := door.Late(plan(travel, 5, 7), s); got != want {
						t.Errorf("Late of %+v with Travel %d: got %t", s, travel, got)
					}
				}
			}
		}
	}
}

// row is an example of a row of the table of P12.2, for a car of Travel 2, Dwell 3 and Hold 8.
type row struct {
	s           api.DoorState
	door        int
	block, want bool
	next        api.DoorState
	command     int
}

func expectRows(t *testing.T, l []row) {
	t.Helper()
	for _, x := range l {
		next, command := door.Step(plan(2, 3, 8), x.s, x.door, x.block, x.want)
		if next != x.next || command != x.command {
			t.Errorf("Step of %+v, door %d, block %t, want %t: got %+v and %d, want %+v and %d", x.s, x.door, x.block, x.want, next, command, x.next, x.command)
		}
	}
}

// P12.2: an idle door opens only if it is wanted to, whatever else is told.
func TestIdle(t *testing.T) {
	for _, d := range doors {
		for _, block := range []bool{false, true} {
			expectRows(t, []row{
				{api.DoorState{}, d, block, true, state(opening, 0, 0, false, 0), toOpen},
				{api.DoorState{}, d, block, false, api.DoorState{}, none},
			})
		}
	}
}

// P12.2: the rows of a door that opens.
func TestOpening(t *testing.T) {
	expectRows(t, []row{
		// it is open, for the first time and again, also if it is late
		{state(opening, 1, 0, false, 0), open, false, false, state(waiting, 0, 1, false, 0), none},
		{state(opening, 0, 0, false, 0), open, true, true, state(waiting, 0, 1, false, 0), none},
		{state(opening, 1, 1, false, 1), open, false, false, state(waiting, 0, 2, false, 1), none},
		{state(opening, 2, 7, true, 2), open, true, false, state(waiting, 0, 8, true, 2), none},
		{state(opening, 1, 8, false, 3), open, false, true, state(waiting, 0, 9, false, 3), none},
		{state(opening, most, most, false, most), open, false, false, state(waiting, 0, most, false, most), none},
		// it is late
		{state(opening, 1, 8, false, 2), moving, false, false, state(shutting, 0, 9, true, 2), toNudge},
		{state(opening, 5, 9, true, 2), closed, true, true, state(shutting, 0, 10, true, 2), toNudge},
		{state(opening, most, most, false, most), moving, true, false, state(shutting, 0, most, true, most), toNudge},
		// it goes on, however long it takes
		{state(opening, 0, 0, false, 0), closed, false, true, state(opening, 1, 0, false, 0), toOpen},
		{state(opening, 5, 0, false, 0), moving, true, false, state(opening, 6, 0, false, 0), toOpen},
		{state(opening, 1, 7, true, 4), moving, true, true, state(opening, 2, 8, true, 4), toOpen},
		{state(opening, most-1, 0, false, 0), moving, false, false, state(opening, most, 0, false, 0), toOpen},
		{state(opening, most, 0, false, 0), api.DoorBad, false, false, state(opening, most, 0, false, 0), toOpen},
	})
}

// P12.2: the rows of a door that waits; what it reports, and whether it is wanted, makes no difference.
func TestWaiting(t *testing.T) {
	for _, d := range doors {
		for _, want := range []bool{false, true} {
			expectRows(t, []row{
				// it is late, whether or not Dwell is over and something stands in it
				{state(waiting, 1, 8, false, 2), d, false, want, state(shutting, 0, 9, true, 2), toNudge},
				{state(waiting, 2, 8, false, 0), d, false, want, state(shutting, 0, 9, true, 0), toNudge},
				{state(waiting, 7, 8, false, 1), d, true, want, state(shutting, 0, 9, true, 1), toNudge},
				{state(waiting, most, most, true, most), d, true, want, state(shutting, 0, most, true, most), toNudge},
				// Dwell is over
				{state(waiting, 2, 3, false, 0), d, false, want, state(shutting, 0, 4, false, 0), toClose},
				{state(waiting, 6, 7, false, 5), d, false, want, state(shutting, 0, 8, false, 5), toClose},
				{state(waiting, most, 7, true, 5), d, false, want, state(shutting, 0, 8, true, 5), toClose},
				// it goes on
				{state(waiting, 1, 2, false, 0), d, false, want, state(waiting, 2, 3, false, 0), none},
				{state(waiting, 0, 7, true, 3), d, false, want, state(waiting, 1, 8, true, 3), none},
				{state(waiting, 2, 3, false, 1), d, true, want, state(waiting, 3, 4, false, 1), none},
				{state(waiting, 6, 7, false, 0), d, true, want, state(waiting, 7, 8, false, 0), none},
				{state(waiting, most, 0, false, 0), d, true, want, state(waiting, most, 0, false, 0), none},
			})
		}
	}
}

// P12.2: the rows of a door that shuts.
func TestShutting(t *testing.T) {
	expectRows(t, []row{
		// it is closed, also if it is late or something is said to stand in it
		{state(shutting, 1, 5, false, 0), closed, false, false, api.DoorState{}, none},
		{state(shutting, 1, 5, false, 2), closed, true, true, api.DoorState{}, none},
		{state(shutting, 0, 8, false, 0), closed, false, true, api.DoorState{}, none},
		{state(shutting, 3, 12, true, 3), closed, true, false, api.DoorState{}, none},
		{state(shutting, most, most, true, most), closed, true, true, api.DoorState{}, none},
		// it is late, for the first time and again
		{state(shutting, 1, 8, false, 2), moving, false, false, state(shutting, 0, 9, true, 2), toNudge},
		{state(shutting, 4, 9, false, 0), open, true, true, state(shutting, 0, 10, true, 0), toNudge},
		{state(shutting, 0, 9, true, 1), moving, false, false, state(shutting, 1, 10, true, 1), toNudge},
		{state(shutting, 4, 8, true, 0), open, true, true, state(shutting, 5, 9, true, 0), toNudge},
		{state(shutting, most, most, true, most), api.DoorBad, true, false, state(shutting, most, most, true, most), toNudge},
		// something stands in it
		{state(shutting, 1, 5, false, 0), moving, true, false, state(opening, 0, 6, false, 1), toOpen},
		{state(shutting, 0, 7, false, 3), open, true, true, state(opening, 0, 8, false, 4), toOpen},
		{state(shutting, 2, 7, true, most-1), moving, true, false, state(opening, 0, 8, true, most), toOpen},
		{state(shutting, 2, 0, false, most), api.DoorBad, true, false, state(opening, 0, 0, false, most), toOpen},
		// it goes on
		{state(shutting, 0, 5, false, 0), moving, false, false, state(shutting, 1, 6, false, 0), toClose},
		{state(shutting, 6, 7, true, 3), open, false, true, state(shutting, 7, 8, true, 3), toClose},
		{state(shutting, most, 0, false, 1), api.DoorBad, false, false, state(shutting, most, 0, false, 1), toClose},
	})
}

// P12.2: the result for what is no state is that of the zero state.
func TestStepOfNoState(t *testing.T) {
	for _, s := range noStates() {
		for _, d := range doors {
			for _, block := range []bool{false, true} {
				expectRows(t, []row{
					{s, d, block, true, state(opening, 0, 0, false, 0), toOpen},
					{s, d, block, false, api.DoorState{}, none},
				})
			}
		}
	}
}

// P12.3: Time and Since go on; all else stays.
func TestSkip(t *testing.T) {
	after := map[int]int{0: 1, 1: 2, 2: 3, 3: 4, 4: 5, 7: 8, 8: 9, 9: 10, 10: 11, most - 1: most, most: most}
	for _, s := range someStates() {
		want := s
		if s.Stage != idle {
			want.Time = after[s.Time]
			if s.Since != 0 {
				want.Since = after[s.Since]
			}
		}
		if got := door.Skip(s); got != want {
			t.Errorf("Skip(%+v): got %+v, want %+v", s, got, want)
		}
	}
	for _, s := range noStates() {
		if got := door.Skip(s); got != s {
			t.Errorf("Skip(%+v), which is no state: got %+v", s, got)
		}
	}
}
