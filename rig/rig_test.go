package rig_test

import (
	"math"
	"reflect"
	"slices"
	"testing"

	"overlay/api"
	"overlay/newcar"
	"overlay/rig"
)

const (
	none, up, down           = api.CmdNone, api.CmdUp, api.CmdDown
	toOpen, toClose, toNudge = api.CmdOpen, api.CmdClose, api.CmdNudge
	moving, open, closed     = api.DoorMoving, api.DoorOpen, api.DoorClosed
	most                     = api.MaxTime
)

// noCommands mean nothing to a drive; many of them end in the bits of one that does.
var noCommands = []int{none, 6, 7, 8, -1, -2, -3, -5, 255, 256, 256 + up, 256 + toOpen, 1 << 32, 1<<32 + up, 1<<32 + down, 1<<32 + toOpen, 1<<32 + toClose, math.MaxInt, math.MinInt, math.MinInt + up, math.MinInt + toNudge}

// commands are all that a drive can be told.
var commands = append([]int{up, down, toOpen, toClose, toNudge}, noCommands...)

// standing is a car at a floor whose door stands.
func standing(floor, door int) api.Rig {
	return api.Rig{Floor: floor, Target: floor, Door: door}
}

// between is a car on its way.
func between(floor, target, left int) api.Rig {
	return api.Rig{Floor: floor, Target: target, Left: left, Door: closed}
}

// turning is a car at a floor whose door moves.
func turning(floor, aim, ticks int) api.Rig {
	return api.Rig{Floor: floor, Target: floor, Aim: aim, Ticks: ticks}
}

// states are those of a drive with so many floors, with these times.
func states(floors int, times ...int) []api.Rig {
	var l []api.Rig
	for floor := range floors {
		l = append(l, standing(floor, open), standing(floor, closed))
		for _, time := range times {
			l = append(l, turning(floor, open, time), turning(floor, closed, time))
			if floor > 0 {
				l = append(l, between(floor, floor-1, time), between(floor-1, floor, time))
			}
		}
	}
	return l
}

// noFloors are numbers of floors that no building has.
var noFloors = []int{1, 0, -1, -2, -31, -32, 33, 34, 64, 66, 256 + 4, 1<<32 + 4, math.MaxInt, math.MaxInt32, math.MinInt, math.MinInt + 4}

// noTimes are no ticks that are left of a movement.
var noTimes = []int{0, -1, -2, -most, most + 1, most + 2, 65536 + 1, 1 << 32, 1<<32 + 1, math.MaxInt, math.MaxInt - 1, math.MinInt, math.MinInt + 1}

// noDoors are no doors of a drive.
var noDoors = []int{api.DoorBad, 4, -1, -2, 255, 256, 256 + open, 1 << 32, 1<<32 + open, 1<<32 + closed, math.MaxInt, math.MinInt, math.MinInt + closed}

// outside are numbers that are no floor of a drive with so many floors.
func outside(floors int) []int {
	return []int{-1, -2, -floors, -32, floors, floors + 1, 32, 33, 64, 256, 1 << 32, 1<<32 + 1, math.MaxInt, math.MaxInt - 1, math.MinInt, math.MinInt + 1}
}

// noStates are no states of a drive with so many floors: each has a field that none has, or that does not go with another.
func noStates(floors int) []api.Rig {
	l := []api.Rig{{}, {Aim: open}, {Ticks: 1}, {Door: open, Left: 1}}
	for _, floor := range outside(floors) {
		l = append(l, standing(floor, closed), standing(floor, open), turning(floor, open, 1), between(floor, floor, 1))
		for in := range floors {
			l = append(l, between(in, floor, 1), between(floor, in, 1), between(in, floor, 0), between(floor, in, 0))
		}
	}
	for floor := range floors {
		for target := range floors {
			l = append(l, noStep(floor, target)...)
		}
		l = append(l, noDoor(floor)...)
	}
	return l
}

// noStep are no states of a car at a floor with a step to another, or to the same.
func noStep(floor, target int) (l []api.Rig) {
	near := target-floor == 1 || floor-target == 1
	for _, time := range append([]int{1, 2, 3, most - 1, most}, noTimes...) {
		s := between(floor, target, time)
		if near && 1 <= time && time <= most {
			l = append(l, api.Rig{Floor: floor, Target: target, Left: time, Door: open})
			l = append(l, api.Rig{Floor: floor, Target: target, Left: time, Aim: open, Ticks: 1})
			l = append(l, api.Rig{Floor: floor, Target: target, Left: time, Aim: closed, Ticks: most})
			s.Aim = closed
			l = append(l, s)
			s.Aim, s.Ticks = moving, 1
			l = append(l, s)
		} else if floor != target || time != 0 {
			l = append(l, s)
			s.Door = open
			l = append(l, s)
		}
	}
	return l
}

// noDoor are no states of a car at a floor, as far as its door goes.
func noDoor(floor int) (l []api.Rig) {
	for _, door := range noDoors {
		l = append(l, standing(floor, door), turning(floor, door, 1), turning(floor, door, 0))
		l = append(l, api.Rig{Floor: floor, Target: floor, Door: door, Aim: open, Ticks: 1})
	}
	for _, time := range noTimes {
		l = append(l, turning(floor, open, time), turning(floor, closed, time))
	}
	l = append(l, turning(floor, moving, 0), turning(floor, moving, 1), turning(floor, moving, most))
	for _, door := range []int{open, closed} {
		for _, aim := range append([]int{open, closed}, noDoors...) {
			l = append(l, api.Rig{Floor: floor, Target: floor, Door: door, Aim: aim})
			l = append(l, api.Rig{Floor: floor, Target: floor, Door: door, Aim: aim, Ticks: 1})
		}
		for _, time := range append([]int{1, 2, most}, noTimes[1:]...) {
			l = append(l, api.Rig{Floor: floor, Target: floor, Door: door, Ticks: time})
		}
	}
	return l
}

// P16.1: a car at a floor with a closed door; New does not ask whether there is such a floor.
func TestNew(t *testing.T) {
	for _, floor := range append([]int{0, 1, 2, 5, 30, 31}, outside(4)...) {
		got, want := rig.New(floor), api.Rig{Floor: floor, Target: floor, Left: 0, Door: api.DoorClosed, Aim: api.DoorMoving, Ticks: 0}
		if got != want {
			t.Errorf("New(%d): got %+v", floor, got)
		}
		for floors := 2; floors <= 32; floors++ {
			if rig.IsState(floors, got) != (0 <= floor && floor < floors) {
				t.Errorf("%d floors, IsState(%+v): got %t", floors, got, rig.IsState(floors, got))
			}
		}
	}
}

// P16.1: the states, and what is none.
func TestIsState(t *testing.T) {
	for floors := 2; floors <= 32; floors++ {
		for _, s := range states(floors, 1, 2, 3, 127, 128, 255, 256, most/2, most-1, most) {
			if !rig.IsState(floors, s) {
				t.Errorf("%d floors, IsState(%+v): got false", floors, s)
			}
		}
		for _, s := range noStates(floors) {
			if rig.IsState(floors, s) {
				t.Errorf("%d floors, IsState(%+v): got true", floors, s)
			}
		}
	}
}

// P16.1: there are no states of a drive with fewer or more floors than a building has.
func TestIsStateOfOtherFloors(t *testing.T) {
	for _, floors := range noFloors {
		for _, s := range states(35, 1, 5, most) {
			if rig.IsState(floors, s) {
				t.Errorf("%d floors, IsState(%+v): got true", floors, s)
			}
		}
	}
}

// sentence is an example of what P16.2 says, for a drive with five floors.
type sentence struct {
	s         api.Rig
	cmd, time int
	next      api.Rig
}

func expectSentences(t *testing.T, l []sentence) {
	t.Helper()
	for _, x := range l {
		if next := rig.Step(5, x.s, x.cmd, x.time); next != x.next {
			t.Errorf("Step of %+v with command %d and time %d: got %+v, want %+v", x.s, x.cmd, x.time, next, x.next)
		}
	}
}

// P16.2: a step that is going on goes on, whatever the command and the time.
func TestRide(t *testing.T) {
	for _, cmd := range commands {
		for _, time := range []int{1, 2, 9, most, most + 1, 0, -1, math.MaxInt, math.MinInt} {
			expectSentences(t, []sentence{
				{between(2, 3, 1), cmd, time, standing(3, closed)},
				{between(2, 3, 2), cmd, time, between(2, 3, 1)},
				{between(2, 3, most), cmd, time, between(2, 3, most-1)},
				{between(3, 2, 1), cmd, time, standing(2, closed)},
				{between(3, 2, 3), cmd, time, between(3, 2, 2)},
				{between(0, 1, 1), cmd, time, standing(1, closed)},
				{between(1, 0, 1), cmd, time, standing(0, closed)},
				{between(3, 4, 1), cmd, time, standing(4, closed)},
				{between(4, 3, most), cmd, time, between(4, 3, most-1)},
			})
		}
	}
}

// P16.2: a step begins at a floor with a closed door, if there is a floor to which it leads.
func TestLeave(t *testing.T) {
	expectSentences(t, []sentence{
		{standing(0, closed), up, 3, between(0, 1, 2)},
		{standing(2, closed), up, 3, between(2, 3, 2)},
		{standing(3, closed), up, 2, between(3, 4, 1)},
		{standing(3, closed), up, 1, standing(4, closed)},
		{standing(4, closed), up, 3, standing(4, closed)},
		{standing(4, closed), up, 1, standing(4, closed)},
		{standing(4, closed), down, 3, between(4, 3, 2)},
		{standing(2, closed), down, 3, between(2, 1, 2)},
		{standing(1, closed), down, 2, between(1, 0, 1)},
		{standing(1, closed), down, 1, standing(0, closed)},
		{standing(0, closed), down, 3, standing(0, closed)},
		{standing(0, closed), down, 1, standing(0, closed)},
	})
}

// P16.2: a car whose door is not closed does not leave, and its door does what it did.
func TestDoorKeepsCar(t *testing.T) {
	for _, cmd := range append([]int{up, down}, noCommands...) {
		for _, time := range []int{1, 2, 9, most, -1} {
			for floor := range 5 {
				expectSentences(t, []sentence{
					{standing(floor, open), cmd, time, standing(floor, open)},
					{turning(floor, open, 3), cmd, time, turning(floor, open, 2)},
					{turning(floor, open, 1), cmd, time, standing(floor, open)},
					{turning(floor, closed, 3), cmd, time, turning(floor, closed, 2)},
					{turning(floor, closed, 1), cmd, time, standing(floor, closed)},
					{turning(floor, closed, most), cmd, time, turning(floor, closed, most-1)},
				})
			}
		}
	}
}

// P16.2: without a command that means anything, a car that stands goes on standing.
func TestStays(t *testing.T) {
	for _, cmd := range noCommands {
		for _, time := range []int{1, 2, 9, most, -1} {
			for floor := range 5 {
				expectSentences(t, []sentence{{standing(floor, closed), cmd, time, standing(floor, closed)}})
			}
		}
	}
}

// P16.2: the door opens.
func TestOpens(t *testing.T) {
	for floor := range 5 {
		expectSentences(t, []sentence{
			{standing(floor, closed), toOpen, 3, turning(floor, open, 2)},
			{standing(floor, closed), toOpen, 2, turning(floor, open, 1)},
			{standing(floor, closed), toOpen, 1, standing(floor, open)},
			{turning(floor, open, 7), toOpen, 3, turning(floor, open, 6)}, // it goes on, and takes no other time
			{turning(floor, open, 2), toOpen, 9, turning(floor, open, 1)},
			{turning(floor, open, 1), toOpen, 9, standing(floor, open)},
			{standing(floor, open), toOpen, 9, standing(floor, open)},
			{standing(floor, open), toOpen, 1, standing(floor, open)},
			{turning(floor, closed, 7), toOpen, 3, turning(floor, open, 2)}, // it turns back
			{turning(floor, closed, 1), toOpen, 3, turning(floor, open, 2)},
			{turning(floor, closed, 7), toOpen, 1, standing(floor, open)},
		})
	}
}

// P16.2: the door closes; nudging is closing.
func TestCloses(t *testing.T) {
	for _, cmd := range []int{toClose, toNudge} {
		for floor := range 5 {
			expectSentences(t, []sentence{
				{standing(floor, open), cmd, 3, turning(floor, closed, 2)},
				{standing(floor, open), cmd, 2, turning(floor, closed, 1)},
				{standing(floor, open), cmd, 1, standing(floor, closed)},
				{turning(floor, closed, 7), cmd, 3, turning(floor, closed, 6)},
				{turning(floor, closed, 2), cmd, 9, turning(floor, closed, 1)},
				{turning(floor, closed, 1), cmd, 9, standing(floor, closed)},
				{standing(floor, closed), cmd, 9, standing(floor, closed)},
				{standing(floor, closed), cmd, 1, standing(floor, closed)},
				{turning(floor, open, 7), cmd, 3, turning(floor, closed, 2)},
				{turning(floor, open, 1), cmd, 3, turning(floor, closed, 2)},
				{turning(floor, open, 7), cmd, 1, standing(floor, closed)},
			})
		}
	}
}

// P16.2: a time is limited to 1 to MaxTime.
func TestTimes(t *testing.T) {
	limited := map[int]int{1: 1, 2: 2, 127: 127, 128: 128, 256: 256, 257: 257, most - 1: most - 1, most: most, most + 1: most, 20000: most, 65537: most, 1 << 32: most, 1<<32 + 1: most, math.MaxInt: most}
	for _, time := range []int{0, -1, -2, -most, -most - 1, -256, -1 << 32, 1<<32 - 1<<40, math.MinInt, math.MinInt + 5} {
		limited[time] = 1
	}
	for time, n := range limited {
		step, opens, closes, turns := between(1, 2, n-1), turning(1, open, n-1), turning(1, closed, n-1), turning(1, open, n-1)
		if n == 1 {
			step, opens, closes, turns = standing(2, closed), standing(1, open), standing(1, closed), standing(1, open)
		}
		expectSentences(t, []sentence{
			{standing(1, closed), up, time, step},
			{standing(1, closed), toOpen, time, opens},
			{standing(1, open), toClose, time, closes},
			{standing(1, open), toNudge, time, closes},
			{turning(1, closed, 5), toOpen, time, turns},
		})
	}
}

// P16.2: behind what is no state a car stands at floor 0, with any command and also with a number of floors that no
// building has.
func TestStepOfNoState(t *testing.T) {
	expect := func(floors int, s api.Rig) {
		t.Helper()
		for _, cmd := range []int{none, up, down, toOpen, toClose, toNudge, 9} {
			for _, time := range []int{1, 3} {
				if got := rig.Step(floors, s, cmd, time); got != standing(0, closed) {
					t.Errorf("%d floors, Step of %+v with command %d: got %+v", floors, s, cmd, got)
				}
			}
		}
	}
	for _, floors := range []int{2, 3, 5, 31, 32} {
		for _, s := range noStates(floors) {
			expect(floors, s)
		}
	}
	for _, floors := range noFloors {
		for _, s := range states(35, 1, 5, most) {
			expect(floors, s)
		}
	}
}

// P16.3: the floor, whether it stands there, the door, and what stands in it; also of what is no state.
func TestReport(t *testing.T) {
	all := slices.Concat(states(5, 1, 2, most), noStates(3))
	for _, s := range all {
		for _, block := range []bool{false, true} {
			want := api.Feedback{Floor: s.Floor, Level: s.Left == 0, Door: s.Door, Block: block}
			if got := rig.Report(s, block); got != want {
				t.Errorf("Report(%+v, %t): got %+v", s, block, got)
			}
		}
	}
	for _, x := range []struct {
		s  api.Rig
		fb api.Feedback
	}{
		{standing(3, closed), api.Feedback{Floor: 3, Level: true, Door: closed}},
		{standing(3, open), api.Feedback{Floor: 3, Level: true, Door: open}},
		{turning(4, closed, 2), api.Feedback{Floor: 4, Level: true, Door: moving}},
		{between(2, 3, 1), api.Feedback{Floor: 2, Door: closed}},
		{between(2, 1, most), api.Feedback{Floor: 2, Door: closed}},
	} {
		blocked := x.fb
		blocked.Block = true
		if got, gotBlocked := rig.Report(x.s, false), rig.Report(x.s, true); got != x.fb || gotBlocked != blocked {
			t.Errorf("Report(%+v): got %+v and %+v", x.s, got, gotBlocked)
		}
	}
}

// plan is a building with five floors and two cars.
func plan() api.Building {
	return api.Building{Floors: 5, Debounce: 2, Room: 200, Park: 3, Empty: 0.125, Full: 0.75, Over: 1.125, Cars: []api.Car{
		{Deadline: 101, Pulse: 102, Quiet: 103, Slack: 104, Step: 4, Travel: 2, Dwell: 6, Hold: 10, Home: 2},
		{Deadline: 105, Pulse: 106, Quiet: 107, Slack: 108, Step: 7, Travel: 3, Dwell: 5, Hold: 9, Home: 4},
	}}
}

// changed is the plan with a change.
func changed(change func(b *api.Building)) api.Building {
	b := plan()
	change(&b)
	return b
}

// driven is an example of what P16.4 says, for car 1 of the plan.
type driven struct {
	s     api.NewCar
	r     api.Rig
	press uint32
	hall  api.Calls
	time  int
	block bool
	next  api.NewCar
	moved api.Rig
	cmd   int
}

func waiting(time, since int) api.DoorState {
	return api.DoorState{Stage: api.DoorWaiting, Time: time, Since: since}
}

// P16.4: the control sees the drive as it is ahead of the tick, and the drive does what the control says in it.
func TestDrive(t *testing.T) {
	b := plan()
	opens, closes := api.DoorState{Stage: api.DoorOpening}, api.DoorState{Stage: api.DoorShutting}
	shuts, again, nudged := closes, opens, closes
	shuts.Since, again.Since, again.Cycles, nudged.Since, nudged.Nudge = 6, 3, 1, 10, true
	for _, x := range []driven{
		{r: standing(1, closed), time: 3, next: api.NewCar{Idle: 1}, moved: standing(1, closed)},
		{s: api.NewCar{Idle: 3}, r: standing(1, closed), time: 3, next: api.NewCar{Idle: 3, Motion: api.Motion{Command: up, Floor: 1}}, moved: between(1, 2, 2), cmd: up}, // it parks
		{r: standing(1, closed), press: 1, time: 3, next: api.NewCar{Calls: 1, Sweep: api.Sweep{Dir: api.DirDown}, Motion: api.Motion{Command: down, Floor: 1}}, moved: between(1, 0, 2), cmd: down},
		{r: standing(1, closed), hall: api.Calls{Up: 8}, time: 1, next: api.NewCar{Sweep: api.Sweep{Dir: api.DirUp}, Motion: api.Motion{Command: up, Floor: 1}}, moved: standing(2, closed), cmd: up},
		{r: standing(1, closed), press: 2, time: 2, next: api.NewCar{Calls: 2, Sweep: api.Sweep{Opened: 1}, Door: opens}, moved: turning(1, open, 1), cmd: toOpen},
		{s: api.NewCar{Motion: api.Motion{Command: up, Floor: 1}, Sweep: api.Sweep{Dir: api.DirUp}, Calls: 8}, r: between(1, 2, 2), time: 9, next: api.NewCar{Motion: api.Motion{Command: up, Floor: 1, Time: 1}, Sweep: api.Sweep{Dir: api.DirUp}, Calls: 8}, moved: between(1, 2, 1), cmd: up},
		{s: api.NewCar{Door: opens, Calls: 2}, r: turning(1, open, 2), time: 9, next: api.NewCar{Door: api.DoorState{Stage: api.DoorOpening, Time: 1}, Calls: 2}, moved: turning(1, open, 1), cmd: toOpen},
		{s: api.NewCar{Door: opens, Calls: 3}, r: standing(1, open), time: 9, next: api.NewCar{Door: waiting(0, 1), Calls: 1}, moved: standing(1, open)},
		{s: api.NewCar{Door: waiting(4, 5)}, r: standing(1, open), time: 2, next: api.NewCar{Door: shuts}, moved: turning(1, closed, 1), cmd: toClose},
		{s: api.NewCar{Door: waiting(4, 5)}, r: standing(1, open), time: 2, block: true, next: api.NewCar{Door: waiting(5, 6)}, moved: standing(1, open)},
		{s: api.NewCar{Door: waiting(0, 9)}, r: standing(1, open), time: 1, block: true, next: api.NewCar{Door: nudged}, moved: standing(1, closed), cmd: toNudge},
		{s: api.NewCar{Door: api.DoorState{Stage: api.DoorShutting, Since: 2}}, r: turning(1, closed, 1), time: 3, block: true, next: api.NewCar{Door: again}, moved: turning(1, open, 2), cmd: toOpen},
		{s: api.NewCar{Fault: true}, r: between(1, 2, 1), press: 9, time: 3, next: api.NewCar{Fault: true}, moved: standing(2, closed)},
		{s: api.NewCar{Motion: api.Motion{Command: up, Floor: 1, Time: 7}}, r: between(1, 2, 7), time: 3, next: api.NewCar{Fault: true}, moved: between(1, 2, 6)},
	} {
		next, moved, cmd, e := rig.Drive(b, 1, x.s, x.r, x.press, x.hall, x.time, x.block)
		if next != x.next || moved != x.moved || cmd != x.cmd || e != api.OK {
			t.Errorf("Drive of %+v:\ngot %+v, %+v, %d and %d", x, next, moved, cmd, e)
		}
	}
}

// P16.4: each car has its own times and its own home.
func TestDriveEachCar(t *testing.T) {
	b := plan()
	on, home := api.NewCar{Motion: api.Motion{Command: up, Floor: 1, Time: 4}}, api.NewCar{Idle: 3}
	late, _, cmd, _ := rig.Drive(b, 0, on, between(1, 2, 7), 0, api.Calls{}, 1, false)
	early, _, cmd2, _ := rig.Drive(b, 1, on, between(1, 2, 7), 0, api.Calls{}, 1, false)
	if !late.Fault || early.Fault || cmd != none || cmd2 != up {
		t.Errorf("a step of 5 ticks: got %+v, %d and %+v, %d", late, cmd, early, cmd2)
	}
	for car, want := range []int{down, up} {
		if _, _, cmd, e := rig.Drive(b, car, home, standing(3, closed), 0, api.Calls{}, 1, false); cmd != want || e != api.OK {
			t.Errorf("car %d parks: got %d and %d", car, cmd, e)
		}
	}
}

// expectErrArg compares with the result for what Drive does not allow.
func expectErrArg(t *testing.T, b api.Building, car int, s api.NewCar, r api.Rig) {
	t.Helper()
	for _, press := range []uint32{0, 5} {
		next, moved, cmd, e := rig.Drive(b, car, s, r, press, api.Calls{Up: 2, Down: 8}, 3, true)
		if next != (api.NewCar{}) || moved != (api.Rig{}) || cmd != none || e != api.ErrArg {
			t.Errorf("%+v, car %d: Drive of %+v, %+v: got %+v, %+v, %d and %d", b, car, s, r, next, moved, cmd, e)
		}
	}
}

// P16.4: ErrArg of the drive, of the car, and of both.
func TestDriveErrors(t *testing.T) {
	b := plan()
	for _, r := range noStates(5) {
		expectErrArg(t, b, 0, api.NewCar{Calls: 8}, r)
		expectErrArg(t, b, 1, api.NewCar{Fault: true}, r)
		expectErrArg(t, b, 2, api.NewCar{Shown: 3}, r)
	}
	for _, r := range states(5, 1, 2, most) {
		for _, car := range []int{-1, 2, 3, 256, 1 << 32, math.MaxInt, math.MinInt} {
			expectErrArg(t, b, car, api.NewCar{Calls: 8}, r)
			expectErrArg(t, b, car, api.NewCar{Fault: true}, r)
		}
		for _, s := range []api.NewCar{{Shown: 3}, {Calls: 32}, {Idle: -1}, {Fault: true, Idle: 1}, {Door: waiting(0, 0), Motion: api.Motion{Command: up}}} {
			expectErrArg(t, b, 0, s, r)
		}
	}
}

// P16.4: ErrArg of buildings that are not valid, also if their number of floors is one of a building.
func TestDriveOfNoBuilding(t *testing.T) {
	for _, b := range []api.Building{
		{},
		changed(func(b *api.Building) { b.Floors = 33 }),
		changed(func(b *api.Building) { b.Floors = 1 }),
		changed(func(b *api.Building) { b.Floors = 1<<32 + 5 }),
		changed(func(b *api.Building) { b.Floors = math.MinInt }),
		changed(func(b *api.Building) { b.Floors = 4 }), // then Home 4 is no floor
		changed(func(b *api.Building) { b.Cars = nil }),
		changed(func(b *api.Building) { b.Cars = slices.Repeat(b.Cars[:1], 9) }),
		changed(func(b *api.Building) { b.Park = 0 }),
		changed(func(b *api.Building) { b.Cars[1].Step = 0 }),
		changed(func(b *api.Building) { b.Cars[0].Travel = math.MaxInt }),
		changed(func(b *api.Building) { b.Full = math.NaN() }),
	} {
		for _, r := range states(5, 1, 2, most) {
			expectErrArg(t, b, 0, api.NewCar{}, r)
			expectErrArg(t, b, 1, api.NewCar{Fault: true}, r)
		}
	}
}

// P16.4: the last state that fits a building is one of it, the first one that does not is none.
func TestDriveAtTheTop(t *testing.T) {
	for floors := 5; floors <= 32; floors++ {
		b := changed(func(b *api.Building) { b.Floors = floors })
		for _, r := range []api.Rig{standing(floors-1, closed), standing(floors-1, open), between(floors-2, floors-1, 1)} {
			if _, _, _, e := rig.Drive(b, 0, api.NewCar{}, r, 0, api.Calls{}, 1, false); e != api.OK {
				t.Errorf("%d floors, Drive of %+v: got %d", floors, r, e)
			}
		}
		for _, r := range []api.Rig{standing(floors, closed), standing(floors, open), between(floors-1, floors, 1), between(floors, floors-1, 1)} {
			expectErrArg(t, b, 0, api.NewCar{}, r)
		}
	}
}

// R3: the cars of the building stay as they are.
func TestArgumentsStay(t *testing.T) {
	b := plan()
	b.Cars = append(b.Cars, b.Cars[0])[:2]
	spare := slices.Clone(b.Cars[:3])
	for _, r := range states(5, 1, 3) {
		for car := range 3 {
			rig.Drive(b, car, api.NewCar{Calls: 9}, r, 4, api.Calls{Up: 2}, 2, true)
		}
	}
	if !reflect.DeepEqual(b.Cars[:3], spare) || !newcar.IsState(b, api.NewCar{}) {
		t.Errorf("got %+v", b.Cars[:3])
	}
}
