package motion_test

import (
	"math"
	"testing"

	"overlay/api"
	"overlay/motion"
)

const (
	none, up, down = api.CmdNone, api.CmdUp, api.CmdDown
	most           = api.MaxCount
)

// noSteps are commands that lead to no floor; many of them end in the bits of one that does.
var noSteps = []int{api.CmdOpen, api.CmdClose, api.CmdNudge, 6, -1, -2, 255, 256, 256 + up, 256 + down, 1 << 32, 1<<32 + up, 1<<32 + down, math.MaxInt, math.MinInt, math.MinInt + up, math.MinInt + down}

// plan is a car with this Step. The other times mean nothing to a step, but would make a difference if they were taken for it.
func plan(step int) api.Car {
	return api.Car{Deadline: 3, Pulse: 3, Quiet: 3, Slack: 3, Step: step, Travel: 3, Dwell: 3, Hold: 3, Home: 3}
}

func state(command, time, floor int) api.Motion {
	return api.Motion{Command: command, Time: time, Floor: floor}
}

func at(floor int) api.Feedback {
	return api.Feedback{Floor: floor, Level: true, Door: api.DoorClosed}
}

func between(floor int) api.Feedback {
	return api.Feedback{Floor: floor, Door: api.DoorClosed}
}

// states are those of a car with so many floors, with these times.
func states(floors int, times ...int) []api.Motion {
	var l []api.Motion
	for _, time := range times {
		l = append(l, state(none, time, 0))
		for lower := range floors - 1 {
			l = append(l, state(up, time, lower), state(down, time, lower+1))
		}
	}
	return l
}

// noFloors are numbers of floors that no building has.
func noFloors() []int {
	return []int{1, 0, -1, -2, -31, -32, 33, 34, 64, 66, 256 + 4, 1<<32 + 4, math.MaxInt, math.MaxInt32, math.MinInt, math.MinInt + 4}
}

// outside are numbers that are no floor of a car with so many floors.
func outside(floors int) []int {
	return []int{-1, -2, -floors, -32, floors, floors + 1, 32, 33, 64, 256, 1 << 32, 1<<32 + 1, math.MaxInt, math.MinInt, math.MinInt + 1}
}

// noTimes are numbers to which no Time counts.
func noTimes() []int {
	return []int{-1, -2, -most, most + 1, most + 2, 1 << 32, 1<<32 + 1, math.MaxInt, math.MaxInt - 1, math.MinInt, math.MinInt + 1}
}

// noStates are no states of a car with so many floors: each has one field that none has, or that does not go with another.
func noStates(floors int) []api.Motion {
	var l []api.Motion
	for _, command := range noSteps {
		l = append(l, state(command, 0, 0), state(command, 3, 1), state(command, most, floors-1))
	}
	for _, time := range noTimes() {
		l = append(l, states(floors, time)...)
	}
	for _, floor := range outside(floors) {
		for _, command := range []int{none, up, down} {
			l = append(l, state(command, 0, floor), state(command, 5, floor))
		}
	}
	for floor := 1; floor < floors; floor++ {
		l = append(l, state(none, 0, floor), state(none, 5, floor))
	}
	return append(l, state(up, 0, floors-1), state(up, 7, floors-1), state(down, 0, 0), state(down, 7, 0))
}

// P13.1: the states, and what is none.
func TestIsState(t *testing.T) {
	for floors := 2; floors <= 32; floors++ {
		for _, s := range states(floors, 0, 1, 2, most/2, most-1, most) {
			if !motion.IsState(floors, s) {
				t.Errorf("%d floors, IsState(%+v): got false", floors, s)
			}
		}
		for _, s := range noStates(floors) {
			if motion.IsState(floors, s) {
				t.Errorf("%d floors, IsState(%+v): got true", floors, s)
			}
		}
	}
}

// P13.1: there are no states of a car with fewer or more floors than a building has.
func TestIsStateOfOtherFloors(t *testing.T) {
	for _, floors := range noFloors() {
		for _, s := range states(34, 0, 5, most) {
			if motion.IsState(floors, s) {
				t.Errorf("%d floors, IsState(%+v): got true", floors, s)
			}
		}
	}
}

// P13.1: Late looks at Time only, also of what is no state.
func TestLate(t *testing.T) {
	for _, step := range []int{1, 2, 4, 5, 10000, most, 0, -1, math.MaxInt, math.MinInt} {
		for _, time := range []int{0, 1, 2, 3, 4, 5, 6, 9999, 10000, 10001, most - 1, most, most + 1, -1, -2, math.MaxInt, math.MinInt} {
			for _, s := range []api.Motion{state(none, time, 0), state(up, time, 0), state(down, time, 31), state(none, time, 9), state(9, time, -1)} {
				if got, want := motion.Late(plan(step), s), time > step; got != want {
					t.Errorf("Late of %+v with Step %d: got %t", s, step, got)
				}
			}
		}
	}
}

// sentence is an example of what P13.2 says, for a car with five floors.
type sentence struct {
	s       api.Motion
	fb      api.Feedback
	want    int
	next    api.Motion
	command int
	arrived bool
}

func expectSentences(t *testing.T, l []sentence) {
	t.Helper()
	for _, x := range l {
		next, command, arrived := motion.Step(5, x.s, x.fb, x.want)
		if next != x.next || command != x.command || arrived != x.arrived {
			t.Errorf("Step of %+v, %+v, want %d: got %+v, %d and %t, want %+v, %d and %t", x.s, x.fb, x.want, next, command, arrived, x.next, x.command, x.arrived)
		}
	}
}

// P13.2: a step ends where it leads to, whatever is wanted.
func TestArrived(t *testing.T) {
	for _, want := range append([]int{none, up, down}, noSteps...) {
		expectSentences(t, []sentence{
			{state(up, 0, 2), at(3), want, api.Motion{}, none, true},
			{state(up, 4, 3), at(4), want, api.Motion{}, none, true},
			{state(up, most, 0), at(1), want, api.Motion{}, none, true},
			{state(down, 0, 2), at(1), want, api.Motion{}, none, true},
			{state(down, 4, 1), at(0), want, api.Motion{}, none, true},
			{state(down, most, 4), at(3), want, api.Motion{}, none, true},
			{state(up, 3, 2), api.Feedback{Floor: 3, Level: true, Door: api.DoorOpen, Block: true}, want, api.Motion{}, none, true},
		})
	}
}

// P13.2: a step goes on until the car is level where it leads to, whatever is wanted.
func TestUnderWay(t *testing.T) {
	for _, want := range append([]int{none, up, down}, noSteps...) {
		expectSentences(t, []sentence{
			// the car is not level
			{state(up, 0, 2), between(2), want, state(up, 1, 2), up, false},
			{state(up, 3, 2), between(3), want, state(up, 4, 2), up, false},
			{state(down, 0, 2), between(2), want, state(down, 1, 2), down, false},
			{state(down, 3, 2), between(1), want, state(down, 4, 2), down, false},
			{state(up, 3, 2), api.Feedback{Floor: 3, Door: api.DoorOpen, Block: true}, want, state(up, 4, 2), up, false},
			// it is level at another floor: where it began, one further, and in the wrong direction
			{state(up, 0, 2), at(2), want, state(up, 1, 2), up, false},
			{state(up, 7, 2), at(4), want, state(up, 8, 2), up, false},
			{state(up, 7, 2), at(1), want, state(up, 8, 2), up, false},
			{state(up, 7, 3), at(0), want, state(up, 8, 3), up, false},
			{state(down, 0, 2), at(2), want, state(down, 1, 2), down, false},
			{state(down, 7, 2), at(0), want, state(down, 8, 2), down, false},
			{state(down, 7, 2), at(3), want, state(down, 8, 2), down, false},
			{state(down, 7, 1), at(4), want, state(down, 8, 1), down, false},
			// it takes very long
			{state(up, most-1, 2), between(2), want, state(up, most, 2), up, false},
			{state(down, most, 2), between(2), want, state(down, most, 2), down, false},
			{state(up, most, 2), at(2), want, state(up, most, 2), up, false},
		})
	}
}

// P13.2: a car that is not level begins no step.
func TestNotLevel(t *testing.T) {
	for _, want := range append([]int{none, up, down}, noSteps...) {
		expectSentences(t, []sentence{
			{api.Motion{}, between(2), want, state(none, 1, 0), none, false},
			{api.Motion{}, between(0), want, state(none, 1, 0), none, false},
			{state(none, 5, 0), between(4), want, state(none, 6, 0), none, false},
			{state(none, most-1, 0), between(1), want, state(none, most, 0), none, false},
			{state(none, most, 0), between(1), want, state(none, most, 0), none, false},
		})
	}
}

// P13.2: a car that is level begins the step that is wanted, if it leads to a floor.
func TestBegins(t *testing.T) {
	for _, time := range []int{0, 1, 5, most} {
		s := state(none, time, 0)
		expectSentences(t, []sentence{
			{s, at(0), up, state(up, 0, 0), up, false},
			{s, at(2), up, state(up, 0, 2), up, false},
			{s, at(3), up, state(up, 0, 3), up, false},
			{s, at(4), up, api.Motion{}, none, false},
			{s, at(4), down, state(down, 0, 4), down, false},
			{s, at(2), down, state(down, 0, 2), down, false},
			{s, at(1), down, state(down, 0, 1), down, false},
			{s, at(0), down, api.Motion{}, none, false},
			{s, api.Feedback{Floor: 2, Level: true, Door: api.DoorOpen, Block: true}, up, state(up, 0, 2), up, false},
		})
		for floor := range 5 {
			for _, want := range append([]int{none}, noSteps...) {
				expectSentences(t, []sentence{{s, at(floor), want, api.Motion{}, none, false}})
			}
		}
	}
}

// expectNothing compares with the result for what Step does not allow.
func expectNothing(t *testing.T, floors int, s api.Motion, fb api.Feedback) {
	t.Helper()
	for _, fb.Level = range []bool{false, true} {
		for _, want := range []int{none, up, down, api.CmdOpen} {
			next, command, arrived := motion.Step(floors, s, fb, want)
			if next != (api.Motion{}) || command != none || arrived {
				t.Errorf("%d floors, Step of %+v, %+v, want %d: got %+v, %d and %t", floors, s, fb, want, next, command, arrived)
			}
		}
	}
}

// P13.2: nothing begins, goes on or ends from what is no state.
func TestStepOfNoState(t *testing.T) {
	for _, floors := range []int{2, 3, 5, 31, 32} {
		for _, s := range noStates(floors) {
			for floor := range floors {
				expectNothing(t, floors, s, at(floor))
			}
		}
	}
	for _, floors := range noFloors() {
		for _, s := range states(34, 0, 5, most) {
			for _, floor := range []int{0, 1, 2, 30, 31, 32, 33} {
				expectNothing(t, floors, s, at(floor))
			}
		}
	}
}

// P13.2: nothing begins, goes on or ends at what is no floor, also beside a floor.
func TestStepAtNoFloor(t *testing.T) {
	for floors := 2; floors <= 32; floors++ {
		for _, s := range states(floors, 0, 5, most) {
			for _, floor := range outside(floors) {
				expectNothing(t, floors, s, at(floor))
			}
		}
	}
}

// P13.3: Time goes on, also of what is no state, unless nothing is counted; all else stays.
func TestSkip(t *testing.T) {
	after := map[int]int{0: 1, 1: 2, 2: 3, 5: 6, most - 2: most - 1, most - 1: most, most: most}
	for _, time := range noTimes() {
		after[time] = time
	}
	for time, next := range after {
		for _, command := range append([]int{none, up, down}, noSteps...) {
			if command == none && time == 0 {
				continue
			}
			for _, floor := range []int{0, 1, 2, 31, 32, -1, math.MaxInt, math.MinInt} {
				if got := motion.Skip(state(command, time, floor)); got != state(command, next, floor) {
					t.Errorf("Skip(%+v): got %+v", state(command, time, floor), got)
				}
			}
		}
	}
	for _, floor := range []int{0, 1, 2, 31, 32, -1, math.MaxInt, math.MinInt} {
		if got := motion.Skip(state(none, 0, floor)); got != state(none, 0, floor) {
			t.Errorf("Skip(%+v): got %+v", state(none, 0, floor), got)
		}
	}
}
