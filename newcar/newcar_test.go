package newcar_test

import (
	"math"
	"slices"
	"testing"

	"overlay/api"
	"overlay/newcar"
)

const (
	none, up, down             = api.CmdNone, api.CmdUp, api.CmdDown // also as directions
	toOpen, toClose, toNudge   = api.CmdOpen, api.CmdClose, api.CmdNudge
	opening, waiting, shutting = api.DoorOpening, api.DoorWaiting, api.DoorShutting
	moving, open, closed       = api.DoorMoving, api.DoorOpen, api.DoorClosed
	most                       = api.MaxCount
)

// plan is a building with six floors and two cars, all of whose times differ.
func plan() api.Building {
	return api.Building{Floors: 6, Debounce: 2, Room: 200, Park: 20, Empty: 0.125, Full: 0.75, Over: 1.125, Cars: []api.Car{
		{Deadline: 101, Pulse: 102, Quiet: 103, Slack: 104, Step: 4, Travel: 2, Dwell: 6, Hold: 10, Home: 2},
		{Deadline: 105, Pulse: 106, Quiet: 107, Slack: 108, Step: 7, Travel: 3, Dwell: 5, Hold: 9, Home: 4},
	}}
}

// changed is the plan with a change.
func changed(change func(b *api.Building)) api.Building {
	b := plan()
	change(&b)
	return b
}

// noBuildings are not valid: each has one value that none has.
func noBuildings() []api.Building {
	return []api.Building{
		{},
		changed(func(b *api.Building) { b.Floors = 33 }),
		changed(func(b *api.Building) { b.Floors = 1 }),
		changed(func(b *api.Building) { b.Floors = -6 }),
		changed(func(b *api.Building) { b.Floors = math.MaxInt }),
		changed(func(b *api.Building) { b.Floors = math.MinInt }),
		changed(func(b *api.Building) { b.Floors = 4 }), // then Home 4 is no floor
		changed(func(b *api.Building) { b.Cars = nil }),
		changed(func(b *api.Building) { b.Cars = slices.Repeat(b.Cars[:1], 9) }),
		changed(func(b *api.Building) { b.Debounce = 0 }),
		changed(func(b *api.Building) { b.Park = 0 }),
		changed(func(b *api.Building) { b.Park = math.MinInt }),
		changed(func(b *api.Building) { b.Cars[1].Step = 0 }),
		changed(func(b *api.Building) { b.Cars[0].Travel = math.MaxInt }),
		changed(func(b *api.Building) { b.Cars[0].Hold = 5 }), // below Dwell
		changed(func(b *api.Building) { b.Full = math.NaN() }),
		changed(func(b *api.Building) { b.Room = 0 }),
	}
}

// at is the feedback of a car that stands at a floor.
func at(floor, door int) api.Feedback {
	return api.Feedback{Floor: floor, Level: true, Door: door}
}

// away is the feedback of a car between floors.
func away(floor int) api.Feedback {
	return api.Feedback{Floor: floor, Door: closed}
}

func sweep(dir, opened int) api.Sweep {
	return api.Sweep{Dir: dir, Opened: opened}
}

func door(stage, time, since int) api.DoorState {
	return api.DoorState{Stage: stage, Time: time, Since: since}
}

func step(command, time, floor int) api.Motion {
	return api.Motion{Command: command, Time: time, Floor: floor}
}

func fault() api.NewCar {
	return api.NewCar{Fault: true}
}

// noNumbers are no floors, cars, directions, doors or counters; many of them end in the bits of one.
var noNumbers = []int{-1, -2, -32, -256, -(1 << 32), 1 << 32, 1<<32 + 1, 1<<32 + 2, 1<<40 + 3, math.MaxInt, math.MaxInt - 1, math.MinInt, math.MinInt + 1, math.MinInt + 2}

// someStates are states of the plan.
func someStates() []api.NewCar {
	l := []api.NewCar{{}, fault()}
	for opened := range 8 {
		for dir := none; dir <= down; dir++ {
			for shown := none; shown <= down; shown++ {
				s := api.NewCar{Sweep: sweep(dir, opened), Calls: uint32(7*opened + dir), Shown: shown, Idle: 5 * shown}
				l = append(l, s)
				s.Door = door(opening+dir, opened, 2*opened)
				l = append(l, s)
				s.Door, s.Motion = api.DoorState{}, step(up+dir/2, opened, 1+dir)
				l = append(l, s)
			}
		}
	}
	for _, n := range []int{1, 2, 20, 21, 255, 256, most - 1, most} {
		l = append(l, api.NewCar{Idle: n}, api.NewCar{Idle: n, Shown: down, Calls: 63}, api.NewCar{Motion: step(none, n, 0)})
		l = append(l, api.NewCar{Motion: step(up, n, 4)}, api.NewCar{Motion: step(down, n, 5), Idle: most})
		l = append(l, api.NewCar{Door: api.DoorState{Stage: waiting, Time: n, Since: n, Nudge: true, Cycles: n}, Calls: 63})
	}
	for floor := range 6 {
		l = append(l, api.NewCar{Calls: 1 << floor}, api.NewCar{Calls: 63 &^ (1 << floor), Door: door(shutting, 0, 0)})
	}
	return l
}

// noStates are no states of the plan: each has one field that none has, or fields that do not go together.
func noStates() []api.NewCar {
	l := []api.NewCar{
		{Sweep: sweep(3, 0)}, {Sweep: sweep(256+up, 0)}, {Sweep: sweep(up, 8)}, {Sweep: sweep(none, 256)},
		{Shown: 3}, {Shown: 256}, {Shown: 256 + up, Door: door(waiting, 0, 1)}, {Shown: 3, Motion: step(up, 0, 0)},
		{Idle: most + 1}, {Idle: most + 2}, {Idle: -most},
		{Door: door(4, 0, 0)}, {Door: door(256+waiting, 0, 0)}, {Door: door(0, 1, 0)}, {Door: door(0, 0, 1)}, {Door: api.DoorState{Nudge: true}}, {Door: api.DoorState{Cycles: 1}},
		{Door: door(opening, most+1, 0)}, {Door: door(waiting, 0, most+1)}, {Door: api.DoorState{Stage: shutting, Cycles: most + 1}},
		{Motion: step(none, 0, 1)}, {Motion: step(none, 5, 1)}, {Motion: step(none, most+1, 0)}, {Motion: step(up, most+1, 0)}, {Motion: step(3, 0, 0)}, {Motion: step(256+up, 0, 0)},
		{Motion: step(up, 0, 5)}, {Motion: step(up, 0, 6)}, {Motion: step(down, 0, 0)}, {Motion: step(down, 0, 6)}, {Motion: step(up, 0, -1)},
		{Motion: step(up, 0, 0), Door: door(opening, 0, 0)}, {Motion: step(none, 1, 0), Door: door(waiting, 0, 1)}, {Motion: step(down, 3, 1), Door: door(shutting, 3, 1)},
	}
	for floor := 6; floor < 32; floor++ {
		l = append(l, api.NewCar{Calls: 1 << floor}, api.NewCar{Calls: 1<<floor | 63, Door: door(waiting, 0, 1)})
	}
	for _, n := range noNumbers {
		l = append(l, api.NewCar{Sweep: sweep(n, 0)}, api.NewCar{Sweep: sweep(up, n)}, api.NewCar{Shown: n}, api.NewCar{Idle: n})
		l = append(l, api.NewCar{Door: door(n, 0, 0)}, api.NewCar{Door: door(opening, n, 0)}, api.NewCar{Door: door(waiting, 0, n)})
		l = append(l, api.NewCar{Motion: step(n, 0, 0)}, api.NewCar{Motion: step(up, n, 0)}, api.NewCar{Motion: step(down, 0, n)})
	}
	for _, s := range someStates() {
		if s != (api.NewCar{}) && !s.Fault {
			s.Fault = true
			l = append(l, s)
		}
	}
	return l
}

// P15.1: the states, and what is none.
func TestIsState(t *testing.T) {
	for _, s := range someStates() {
		if !newcar.IsState(plan(), s) {
			t.Errorf("IsState(%+v): got false", s)
		}
		for i, b := range noBuildings() {
			if newcar.IsState(b, s) {
				t.Errorf("building %d: IsState(%+v): got true", i, s)
			}
		}
	}
	for _, s := range noStates() {
		if newcar.IsState(plan(), s) {
			t.Errorf("IsState(%+v): got true", s)
		}
	}
}

// P15.1: how many floors there are makes the difference for car calls and for steps; the zero state is one of every valid
// building.
func TestIsStateOfFloors(t *testing.T) {
	for floors := 5; floors <= 32; floors++ {
		b := changed(func(b *api.Building) { b.Floors = floors })
		for floor := range 32 {
			s, higher := api.NewCar{Calls: 1 << floor}, api.NewCar{Motion: step(up, 0, floor)}
			if newcar.IsState(b, s) != (floor < floors) || newcar.IsState(b, higher) != (floor < floors-1) {
				t.Errorf("%d floors: IsState(%+v): got %t, IsState(%+v): got %t", floors, s, newcar.IsState(b, s), higher, newcar.IsState(b, higher))
			}
		}
		all := api.NewCar{Calls: math.MaxUint32 >> (32 - floors)}
		if !newcar.IsState(b, all) || !newcar.IsState(b, api.NewCar{}) || !newcar.IsState(b, fault()) {
			t.Errorf("%d floors: IsState of %+v, of the zero state or with Fault: got false", floors, all)
		}
	}
}

// example is what Step does with a state of car 0.
type example struct {
	s       api.NewCar
	fb      api.Feedback
	press   uint32
	hall    api.Calls
	next    api.NewCar
	command int
}

func expectSteps(t *testing.T, l []example) {
	t.Helper()
	b := plan()
	for _, x := range l {
		next, command, e := newcar.Step(b, 0, x.s, x.fb, x.press, x.hall)
		if next != x.next || command != x.command || e != api.OK {
			t.Errorf("Step of %+v, %+v, press %d, hall %+v:\ngot  %+v, %d and %d\nwant %+v, %d", x.s, x.fb, x.press, x.hall, next, command, e, x.next, x.command)
		}
	}
}

// P15.2, rule 1: buttons add car calls; those of no floor count for nothing, and, while the door is in a cycle, that of the
// floor of the car.
func TestPress(t *testing.T) {
	var hall api.Calls
	underway := api.NewCar{Sweep: sweep(up, 0), Motion: step(up, 0, 1), Calls: 8}
	later := api.NewCar{Sweep: sweep(up, 0), Motion: step(up, 1, 1), Calls: 8}
	with := func(s api.NewCar, calls uint32) api.NewCar {
		s.Calls = calls
		return s
	}
	expectSteps(t, []example{
		{underway, away(1), 0, hall, later, up},
		{underway, away(1), 1<<0 | 1<<5, hall, with(later, 1<<0|1<<3|1<<5), up},
		{underway, away(1), 1 << 1, hall, with(later, 1<<1|1<<3), up}, // the floor that it leaves
		{underway, away(1), 1 << 3, hall, later, up},
		{underway, away(1), 1<<6 | 1<<31, hall, later, up},
		{underway, away(1), math.MaxUint32, hall, with(later, 63), up},
	})
	for stage := opening; stage <= shutting; stage++ {
		s := api.NewCar{Sweep: sweep(up, 2), Door: door(stage, 0, 1), Shown: up, Calls: 1 << 3}
		next, command := s, []int{toOpen, none, toClose}[stage-opening]
		next.Door.Time, next.Door.Since = 1, 2
		expectSteps(t, []example{
			{s, at(1, moving), 1 << 1, hall, next, command},
			{s, at(1, moving), 1<<1 | 1<<4, hall, with(next, 1<<3|1<<4), command},
			{s, at(2, moving), 1<<1 | 1<<4, hall, with(next, 1<<1|1<<3|1<<4), command},
			{s, api.Feedback{Floor: 2}, 1<<2 | 1<<6, hall, next, command},
			{s, at(5, moving), math.MaxUint32, hall, with(next, 31), command},
			{s, at(0, moving), math.MaxUint32, hall, with(next, 62), command},
		})
	}
	expectSteps(t, []example{ // the door is closed, and opens for the button of this floor; and for one beside a door found open
		{api.NewCar{}, at(1, closed), 1 << 1, hall, api.NewCar{Sweep: sweep(none, 1), Door: door(opening, 0, 0), Calls: 1 << 1}, toOpen},
		{api.NewCar{}, at(1, moving), 1 << 1, hall, api.NewCar{Sweep: sweep(none, 1), Door: door(opening, 1, 0), Calls: 1 << 1}, toOpen},
		{api.NewCar{}, at(1, open), 1 << 1, hall, api.NewCar{Sweep: sweep(none, 1), Door: door(waiting, 0, 1)}, none},
		{api.NewCar{Calls: 1 << 1}, at(1, open), 1 << 2, hall, api.NewCar{Sweep: sweep(none, 1), Door: door(waiting, 0, 1), Calls: 1 << 2}, none},
	})
}

// P15.2, rule 2: a step goes on until the car arrives, whatever the door and the calls are; a car that does not park is not
// idle then.
func TestUnderway(t *testing.T) {
	busy := api.Calls{Up: 31, Down: 62}
	s := api.NewCar{Sweep: sweep(up, 7), Motion: step(up, 2, 1), Calls: 1 << 1, Shown: down, Idle: 8}
	next := api.NewCar{Sweep: sweep(up, 7), Motion: step(up, 3, 1), Calls: 1 << 1, Shown: down}
	for _, fb := range []api.Feedback{away(1), away(2), at(1, closed), at(3, closed), at(1, open), {Floor: 2, Door: moving}, {Floor: 2, Door: open, Block: true}} {
		expectSteps(t, []example{{s, fb, 0, api.Calls{}, next, up}, {s, fb, 0, busy, next, up}})
	}
	parks, parking := s, next
	parks.Sweep.Dir, parking.Sweep.Dir, parking.Idle = none, none, 8
	lost, farther := api.NewCar{Motion: step(none, 3, 0), Idle: 25}, api.NewCar{Motion: step(none, 4, 0)}
	swept, sweptFarther := lost, farther
	swept.Sweep, sweptFarther.Sweep = sweep(down, 4), sweep(down, 4)
	expectSteps(t, []example{
		{parks, away(1), 0, busy, parking, up},
		{parks, at(3, open), 0, busy, parking, up},
		{lost, away(3), 0, busy, farther, none},
		{swept, away(3), 0, busy, sweptFarther, none},
		{lost, api.Feedback{Floor: 0, Door: open}, 0, busy, farther, none},
		{api.NewCar{Idle: 25}, away(0), 0, busy, api.NewCar{Motion: step(none, 1, 0)}, none},
		{api.NewCar{Idle: 25}, away(4), 0, api.Calls{}, api.NewCar{Motion: step(none, 1, 0)}, none},
	})
}

// P15.2, rule 2: in the tick in which a car arrives, or is level again, it begins what comes next.
func TestArrival(t *testing.T) {
	upwards := api.NewCar{Sweep: sweep(up, 0), Motion: step(up, 4, 1), Calls: 1 << 4, Idle: 8}
	lost := api.NewCar{Sweep: sweep(up, 0), Motion: step(none, 4, 0), Calls: 1 << 4, Idle: 8}
	for _, s := range []api.NewCar{upwards, lost} {
		expectSteps(t, []example{
			{s, at(2, closed), 0, api.Calls{}, api.NewCar{Sweep: sweep(up, 0), Motion: step(up, 0, 2), Calls: 1 << 4}, up},
			{s, at(2, closed), 0, api.Calls{Up: 1 << 2}, api.NewCar{Sweep: sweep(up, 2), Door: door(opening, 0, 0), Calls: 1 << 4, Shown: up}, toOpen},
			{s, at(2, closed), 1 << 2, api.Calls{}, api.NewCar{Sweep: sweep(up, 2), Door: door(opening, 0, 0), Calls: 1<<2 | 1<<4, Shown: up}, toOpen},
			{s, at(2, open), 0, api.Calls{}, api.NewCar{Sweep: sweep(up, 1), Door: door(waiting, 0, 1), Calls: 1 << 4}, none},
		})
	}
	upwards.Calls, lost.Calls = 0, 0
	for _, s := range []api.NewCar{upwards, lost} {
		expectSteps(t, []example{{s, at(2, closed), 0, api.Calls{}, api.NewCar{Idle: 9}, none}})
	}
}

// P15.2, rule 3: a door that nobody has opened is not closed: its cycle begins, without a direction.
func TestFoundOpen(t *testing.T) {
	busy := api.Calls{Up: 31, Down: 62}
	for opened := range 8 {
		s := api.NewCar{Sweep: sweep(down, opened), Calls: 1<<1 | 1<<3, Shown: up, Idle: 8}
		expectSteps(t, []example{
			{s, at(3, moving), 0, busy, api.NewCar{Sweep: sweep(down, opened|1), Door: door(opening, 1, 0), Calls: 1<<1 | 1<<3}, toOpen},
			{s, at(3, open), 0, busy, api.NewCar{Sweep: sweep(down, opened|1), Door: door(waiting, 0, 1), Calls: 1 << 1}, none},
			{s, at(0, open), 0, api.Calls{}, api.NewCar{Sweep: sweep(down, opened|1), Door: door(waiting, 0, 1), Calls: 1<<1 | 1<<3}, none},
		})
	}
}

// P15.2, rule 4: the cycle of the door goes on, wherever the car is and whatever the calls are; while the door waits, the
// car calls of the floor are served, and when it is closed no direction is shown.
func TestCycle(t *testing.T) {
	busy := api.Calls{Up: 31, Down: 62}
	cycle := func(door api.DoorState, calls uint32, shown, idle int) api.NewCar {
		return api.NewCar{Sweep: sweep(down, 4), Door: door, Calls: calls, Shown: shown, Idle: idle}
	}
	here, elsewhere := uint32(1<<1|1<<3), uint32(1<<1)
	blocked := func(fb api.Feedback) api.Feedback {
		fb.Block = true
		return fb
	}
	nudged := api.DoorState{Stage: shutting, Since: 11, Nudge: true}
	again := api.DoorState{Stage: opening, Since: 8, Cycles: 1}
	expectSteps(t, []example{
		{cycle(door(opening, 1, 0), here, down, 8), at(3, moving), 0, busy, cycle(door(opening, 2, 0), here, down, 0), toOpen},
		{cycle(door(opening, 1, 0), here, down, 8), at(3, closed), 0, busy, cycle(door(opening, 2, 0), here, down, 0), toOpen},
		{cycle(door(opening, 1, 0), here, down, 8), at(3, open), 0, busy, cycle(door(waiting, 0, 1), elsewhere, down, 0), none},
		{cycle(door(opening, 1, 0), here, down, 8), api.Feedback{Floor: 3, Door: open}, 0, busy, cycle(door(waiting, 0, 1), elsewhere, down, 0), none},
		{cycle(door(waiting, 1, 2), here, up, 8), at(3, open), 0, busy, cycle(door(waiting, 2, 3), elsewhere, up, 0), none},
		{cycle(door(waiting, 1, 2), here, up, 8), at(1, closed), 0, busy, cycle(door(waiting, 2, 3), 1<<3, up, 0), none},
		{cycle(door(waiting, 5, 6), here, up, 8), at(3, open), 0, busy, cycle(door(shutting, 0, 7), here, up, 0), toClose},
		{cycle(door(waiting, 5, 6), here, up, 8), blocked(at(3, open)), 0, busy, cycle(door(waiting, 6, 7), elsewhere, up, 0), none},
		{cycle(door(waiting, 5, 10), here, up, 8), blocked(at(3, open)), 0, busy, cycle(nudged, here, up, 0), toNudge},
		{cycle(door(shutting, 1, 7), here, up, 8), at(3, moving), 0, busy, cycle(door(shutting, 2, 8), here, up, 0), toClose},
		{cycle(door(shutting, 1, 7), here, up, 8), blocked(at(3, moving)), 0, busy, cycle(again, here, up, 0), toOpen},
		{cycle(door(shutting, 1, 7), here, up, 8), at(3, closed), 0, busy, cycle(api.DoorState{}, here, none, 0), none},
		{cycle(door(shutting, 1, 7), here, down, most), at(3, closed), 0, api.Calls{}, cycle(api.DoorState{}, here, none, 0), none},
		{cycle(door(shutting, 1, 7), here, up, 8), api.Feedback{Floor: 2, Door: closed}, 1<<2 | 1<<5, busy, cycle(api.DoorState{}, here|1<<5, none, 0), none},
	})
}

// P15.2, rule 5: with a closed door the car does what the collective rule says of its car calls and the hall calls.
func TestChoose(t *testing.T) {
	standing := func(dir, opened int, calls uint32) api.NewCar {
		return api.NewCar{Sweep: sweep(dir, opened), Calls: calls, Shown: down, Idle: 8}
	}
	opens := func(dir, opened int, calls uint32, shown int) api.NewCar {
		return api.NewCar{Sweep: sweep(dir, opened), Door: door(opening, 0, 0), Calls: calls, Shown: shown}
	}
	leaves := func(dir, command int, calls uint32) api.NewCar {
		return api.NewCar{Sweep: sweep(dir, 0), Motion: step(command, 0, 3), Calls: calls, Shown: down}
	}
	expectSteps(t, []example{
		{standing(none, 0, 0), at(3, closed), 0, api.Calls{Up: 1 << 3}, opens(up, 2, 0, up), toOpen},
		{standing(none, 0, 0), at(3, closed), 0, api.Calls{Down: 1 << 3}, opens(down, 4, 0, down), toOpen},
		{standing(none, 0, 1<<3), at(3, closed), 0, api.Calls{}, opens(none, 1, 1<<3, none), toOpen},
		{standing(none, 0, 1<<3|1<<5), at(3, closed), 0, api.Calls{}, opens(up, 2, 1<<3|1<<5, up), toOpen},
		{standing(up, 0, 1<<3), at(3, closed), 0, api.Calls{Down: 1 << 1}, opens(down, 4, 1<<3, down), toOpen},
		{standing(up, 4, 1<<4), at(3, closed), 0, api.Calls{Up: 1 << 3}, opens(up, 6, 1<<4, up), toOpen},
		{standing(up, 2, 0), at(3, closed), 0, api.Calls{Up: 1 << 3}, opens(up, 2, 0, up), toOpen}, // it is the only one, and so it opens again
		{standing(none, 0, 0), at(3, closed), 0, api.Calls{Up: 1 << 4}, leaves(up, up, 0), up},
		{standing(none, 0, 1<<0), at(3, closed), 0, api.Calls{}, leaves(down, down, 1<<0), down},
		{standing(down, 2, 0), at(3, closed), 1<<2 | 1<<4, api.Calls{Up: 1 << 3}, leaves(down, down, 1<<2|1<<4), down},
		{standing(up, 2, 1<<2), at(3, closed), 0, api.Calls{Up: 1 << 3, Down: 1 << 5}, leaves(up, up, 1<<2), up},
		{standing(up, 7, 0), at(3, closed), 0, api.Calls{}, api.NewCar{Shown: down, Idle: 9}, none},
		{standing(down, 0, 0), at(3, closed), 1 << 6, api.Calls{Up: 1<<5 | 1<<6, Down: 1<<0 | 1<<31}, api.NewCar{Shown: down, Idle: 9}, none}, // calls that there are none of
		{api.NewCar{Idle: 8}, api.Feedback{Floor: 3, Level: true, Door: closed, Block: true}, 0, api.Calls{Up: 1 << 3}, opens(up, 2, 0, up), toOpen},
		{api.NewCar{Idle: most, Motion: step(up, 1, 2)}, at(3, closed), 0, api.Calls{Down: 1 << 5}, api.NewCar{Sweep: sweep(up, 0), Motion: step(up, 0, 3)}, up},
	})
}

// P15.2, rule 5: a car without stops becomes idle, and goes to its Home behind Park ticks.
func TestIdle(t *testing.T) {
	var hall api.Calls
	idle := func(n int) api.NewCar { return api.NewCar{Idle: n} }
	parks := func(n, command, floor int) api.NewCar { return api.NewCar{Motion: step(command, 0, floor), Idle: n} }
	expectSteps(t, []example{
		{idle(0), at(5, closed), 0, hall, idle(1), none}, {idle(18), at(5, closed), 0, hall, idle(19), none}, {idle(19), at(0, closed), 0, hall, idle(20), none},
		{idle(20), at(5, closed), 0, hall, parks(20, down, 5), down}, {idle(20), at(0, closed), 0, hall, parks(20, up, 0), up},
		{idle(21), at(3, closed), 0, hall, parks(21, down, 3), down}, {idle(most), at(1, closed), 0, hall, parks(most, up, 1), up},
		{idle(20), at(2, closed), 0, hall, idle(21), none}, {idle(most - 1), at(2, closed), 0, hall, idle(most), none}, {idle(most), at(2, closed), 0, hall, idle(most), none},
		{parks(33, down, 4), at(3, closed), 0, hall, parks(33, down, 3), down}, {parks(33, down, 3), at(2, closed), 0, hall, idle(34), none},
		{api.NewCar{Sweep: sweep(up, 3), Idle: 20}, at(5, closed), 0, hall, parks(20, down, 5), down},
		{idle(20), at(5, open), 0, hall, api.NewCar{Sweep: sweep(none, 1), Door: door(waiting, 0, 1)}, none},
		{idle(20), at(5, closed), 1 << 5, hall, api.NewCar{Sweep: sweep(none, 1), Door: door(opening, 0, 0), Calls: 1 << 5}, toOpen},
	})
	next, command, e := newcar.Step(plan(), 1, idle(20), at(3, closed), 0, hall)
	if next != parks(20, up, 3) || command != up || e != api.OK {
		t.Errorf("a car with another Home: got %+v, %d and %d", next, command, e)
	}
}

// P15.2, rule 6: a movement that takes longer than it may makes the car faulty; all else of its state is gone then.
func TestLate(t *testing.T) {
	busy := api.Calls{Up: 31, Down: 62}
	with := func(d api.DoorState, m api.Motion) api.NewCar {
		return api.NewCar{Sweep: sweep(up, 2), Door: d, Motion: m, Calls: 1 << 4, Shown: up}
	}
	goes := func(m api.Motion) api.NewCar { return with(api.DoorState{}, m) }
	turns := func(d api.DoorState) api.NewCar { return with(d, api.Motion{}) }
	parks := api.NewCar{Motion: step(down, 4, 5), Idle: 30}
	nudged := api.DoorState{Stage: shutting, Time: 2, Since: 20, Nudge: true}
	expectSteps(t, []example{
		{goes(step(up, 3, 1)), away(1), 0, busy, goes(step(up, 4, 1)), up}, {goes(step(up, 4, 1)), away(1), 0, busy, fault(), none},
		{goes(step(none, 3, 0)), away(1), 0, busy, goes(step(none, 4, 0)), none}, {goes(step(none, 4, 0)), away(1), 0, busy, fault(), none},
		{goes(step(down, most, 1)), away(1), 0, busy, fault(), none}, {parks, away(5), 1 << 3, api.Calls{}, fault(), none},
		{turns(door(opening, 1, 0)), at(3, moving), 0, busy, turns(door(opening, 2, 0)), toOpen}, {turns(door(opening, 2, 0)), at(3, moving), 0, busy, fault(), none},
		{turns(door(opening, 2, 0)), at(3, open), 0, busy, turns(door(waiting, 0, 1)), none}, {turns(door(opening, most, 0)), at(3, closed), 0, busy, fault(), none},
		{turns(door(shutting, 1, 3)), at(3, moving), 0, busy, turns(door(shutting, 2, 4)), toClose}, {turns(door(shutting, 2, 3)), at(3, moving), 0, busy, fault(), none},
		{turns(nudged), at(3, moving), 0, busy, fault(), none}, {turns(door(waiting, most, 3)), at(3, open), 0, api.Calls{}, turns(door(shutting, 0, 4)), toClose},
		{goes(step(up, 99, 1)), at(2, open), 0, busy, api.NewCar{Sweep: sweep(up, 3), Door: door(waiting, 0, 1), Calls: 1 << 4}, none}, // it has arrived
	})
	for car, times := range [][2]int{{4, 2}, {7, 3}} {
		for time := range 12 {
			gone, _, e := newcar.Step(plan(), car, api.NewCar{Motion: step(up, time, 1)}, away(1), 0, busy)
			turned, _, f := newcar.Step(plan(), car, api.NewCar{Door: door(opening, time, 0)}, at(1, moving), 0, busy)
			if gone.Fault != (time+1 > times[0]) || turned.Fault != (time+1 > times[1]) || e != api.OK || f != api.OK {
				t.Errorf("car %d, behind %d ticks: got %+v and %d, %+v and %d", car, time, gone, e, turned, f)
			}
		}
	}
}

// P15.2: with Fault nothing changes.
func TestFault(t *testing.T) {
	busy := api.Calls{Up: 31, Down: 62}
	for _, fb := range []api.Feedback{at(0, closed), at(3, open), at(5, moving), away(2), {Floor: 1, Door: moving, Block: true}} {
		expectSteps(t, []example{
			{fault(), fb, 0, api.Calls{}, fault(), none},
			{fault(), fb, 63, busy, fault(), none},
		})
	}
}

// noArguments are buildings, cars and states for which there is neither Step nor Blind.
func noArguments() []arguments {
	var l []arguments
	for _, b := range noBuildings() {
		l = append(l, arguments{b, 0, api.NewCar{}}, arguments{b, 0, fault()}, arguments{b, 1, api.NewCar{Idle: 3}})
	}
	for _, car := range append(noNumbers, 2, 3, 8, 255, 256) {
		l = append(l, arguments{plan(), car, api.NewCar{}}, arguments{plan(), car, fault()})
	}
	for _, s := range noStates() {
		l = append(l, arguments{plan(), 0, s}, arguments{plan(), 1, s})
	}
	return l
}

type arguments struct {
	b   api.Building
	car int
	s   api.NewCar
}

func expectErrArg(t *testing.T, what any, s api.NewCar, command int, e api.Errno) {
	t.Helper()
	if s != (api.NewCar{}) || command != none || e != api.ErrArg {
		t.Errorf("%+v: got %+v, %d and %d", what, s, command, e)
	}
}

// P15.2, P15.3: what is no building, no car or no state.
func TestErrArg(t *testing.T) {
	for _, x := range noArguments() {
		for _, fb := range []api.Feedback{at(1, closed), away(0)} {
			s, command, e := newcar.Step(x.b, x.car, x.s, fb, 3, api.Calls{Up: 2})
			expectErrArg(t, x, s, command, e)
		}
		s, command, e := newcar.Blind(x.b, x.car, x.s)
		expectErrArg(t, x, s, command, e)
	}
}

// P15.2: what no car reports.
func TestNoFeedback(t *testing.T) {
	l := []api.Feedback{at(6, closed), at(7, closed), at(32, closed), at(256, closed), at(1, 3), at(1, 4), at(1, 256), at(1, 256+closed), away(6), {Floor: 6, Door: 3}}
	for _, n := range noNumbers {
		l = append(l, at(n, closed), at(n, open), away(n), at(1, n), at(n, n))
	}
	for _, fb := range l {
		for _, s := range someStates() {
			next, command, e := newcar.Step(plan(), 0, s, fb, 3, api.Calls{Up: 2})
			expectErrArg(t, fb, next, command, e)
		}
	}
	for floor := range 6 {
		for door := moving; door <= closed; door++ {
			if _, _, e := newcar.Step(plan(), 0, api.NewCar{}, at(floor, door), 3, api.Calls{Up: 2}); e != api.OK {
				t.Errorf("floor %d and door %d: got %d", floor, door, e)
			}
		}
	}
}

// P15.3: a tick without feedback counts for the door and for a step, and changes nothing else.
func TestBlind(t *testing.T) {
	with := func(d api.DoorState, m api.Motion) api.NewCar {
		return api.NewCar{Sweep: sweep(up, 3), Door: d, Motion: m, Calls: 1<<1 | 1<<4, Shown: down, Idle: 30}
	}
	goes := func(m api.Motion) api.NewCar { return with(api.DoorState{}, m) }
	turns := func(d api.DoorState) api.NewCar { return with(d, api.Motion{}) }
	for _, x := range [][2]api.NewCar{
		{{}, {}}, {fault(), fault()}, {{Idle: most}, {Idle: most}}, {goes(api.Motion{}), goes(api.Motion{})},
		{goes(step(up, 0, 0)), goes(step(up, 1, 0))}, {goes(step(down, 3, 5)), goes(step(down, 4, 5))}, {goes(step(down, 4, 5)), fault()}, {goes(step(up, most, 1)), fault()},
		{goes(step(none, 1, 0)), goes(step(none, 2, 0))}, {goes(step(none, 3, 0)), goes(step(none, 4, 0))}, {goes(step(none, 4, 0)), fault()},
		{turns(door(opening, 0, 0)), turns(door(opening, 1, 0))}, {turns(door(opening, 1, 7)), turns(door(opening, 2, 8))}, {turns(door(opening, 2, 0)), fault()},
		{turns(door(shutting, 1, 3)), turns(door(shutting, 2, 4))}, {turns(door(shutting, 2, 3)), fault()}, {turns(door(shutting, most, 3)), fault()},
		{turns(door(waiting, 5, 9)), turns(door(waiting, 6, 10))}, {turns(door(waiting, most, most)), turns(door(waiting, most, most))},
		{turns(api.DoorState{Stage: shutting, Since: 20, Nudge: true, Cycles: 3}), turns(api.DoorState{Stage: shutting, Time: 1, Since: 21, Nudge: true, Cycles: 3})},
	} {
		s, command, e := newcar.Blind(plan(), 0, x[0])
		if s != x[1] || command != none || e != api.OK {
			t.Errorf("Blind of %+v: got %+v, %d and %d, want %+v", x[0], s, command, e, x[1])
		}
	}
	gone, _, e := newcar.Blind(plan(), 1, goes(step(up, 6, 0)))
	turned, _, f := newcar.Blind(plan(), 1, turns(door(opening, 2, 0)))
	if gone != goes(step(up, 7, 0)) || turned != turns(door(opening, 3, 0)) || e != api.OK || f != api.OK {
		t.Errorf("Blind of a car with other times: got %+v and %d, %+v and %d", gone, e, turned, f)
	}
}

// P15.4: a car serves the hall call that it shows, if there is one, while it waits with an open door.
func TestShows(t *testing.T) {
	b := plan()
	for floor := range 6 {
		for shown := none; shown <= down; shown++ {
			var want api.Calls
			if shown == up && floor < 5 {
				want.Up = 1 << floor
			}
			if shown == down && floor > 0 {
				want.Down = 1 << floor
			}
			s := api.NewCar{Sweep: sweep(none, 1), Door: door(waiting, 3, 4), Shown: shown, Calls: 63, Idle: 3}
			for _, block := range []bool{false, true} {
				if got := newcar.Shows(b, s, api.Feedback{Floor: floor, Level: true, Door: open, Block: block}); got != want {
					t.Errorf("floor %d, shown %d: got %+v", floor, shown, got)
				}
			}
			for _, fb := range []api.Feedback{at(floor, moving), at(floor, closed), at(floor, 3), at(floor, 256+open), at(floor, 1<<32+open), {Floor: floor, Door: open}, away(floor)} {
				expectNone(t, b, s, fb)
			}
			for _, d := range []api.DoorState{{}, door(opening, 0, 1), door(opening, 0, 0), door(shutting, 0, 4)} {
				s.Door = d
				expectNone(t, b, s, at(floor, open))
			}
		}
	}
}

func expectNone(t *testing.T, b api.Building, s api.NewCar, fb api.Feedback) {
	t.Helper()
	if got := newcar.Shows(b, s, fb); got != (api.Calls{}) {
		t.Errorf("Shows of %+v, %+v: got %+v", s, fb, got)
	}
}

// P15.4: floors that there are none of, no states and no buildings show nothing; and a car whose door does not wait.
func TestShowsNone(t *testing.T) {
	b := plan()
	shows := api.NewCar{Door: door(waiting, 0, 1), Shown: up}
	for _, floor := range append(noNumbers, 6, 7, 31, 32, 33, 64, 256, 257) {
		expectNone(t, b, shows, at(floor, open))
	}
	for _, other := range noBuildings() {
		expectNone(t, other, shows, at(1, open))
	}
	for _, s := range noStates() {
		expectNone(t, b, s, at(1, open))
		s.Door, s.Shown = door(waiting, 0, 1), up
		if !newcar.IsState(b, s) {
			expectNone(t, b, s, at(1, open))
		}
	}
	expectNone(t, b, fault(), at(1, open))
	expectNone(t, b, api.NewCar{Shown: up}, at(1, open))
}

// P15.4: with 32 floors the lowest and the highest call are those of their bits.
func TestShowsOfManyFloors(t *testing.T) {
	b := changed(func(b *api.Building) { b.Floors = 32 })
	for floor := range 32 {
		upwards := newcar.Shows(b, api.NewCar{Door: door(waiting, 0, 1), Shown: up}, at(floor, open))
		downwards := newcar.Shows(b, api.NewCar{Door: door(waiting, 0, 1), Shown: down}, at(floor, open))
		if upwards != (api.Calls{Up: 1 << floor &^ (1 << 31)}) || downwards != (api.Calls{Down: 1 << floor &^ 1}) {
			t.Errorf("floor %d: got %+v and %+v", floor, upwards, downwards)
		}
	}
}

// P15.4: a car is still if it has nothing to do, and stands at a floor with a closed door.
func TestStill(t *testing.T) {
	b := plan()
	for _, s := range someStates() {
		want := s.Door == api.DoorState{} && s.Motion == api.Motion{} && s.Calls == 0 && !s.Fault
		for floor := range 6 {
			if newcar.Still(b, s, at(floor, closed)) != want || newcar.Still(b, s, api.Feedback{Floor: floor, Level: true, Door: closed, Block: true}) != want {
				t.Errorf("Still of %+v at floor %d: got %t", s, floor, !want)
			}
			for _, fb := range []api.Feedback{away(floor), at(floor, moving), at(floor, open), at(floor, 3), at(floor, 256+closed), at(floor, 1<<32+closed), at(floor, -1), {Floor: floor}} {
				if newcar.Still(b, s, fb) {
					t.Errorf("Still of %+v, %+v: got true", s, fb)
				}
			}
		}
		for i, other := range noBuildings() {
			if newcar.Still(other, s, at(1, closed)) {
				t.Errorf("building %d: Still of %+v: got true", i, s)
			}
		}
	}
	for _, s := range noStates() {
		if newcar.Still(b, s, at(1, closed)) {
			t.Errorf("Still of %+v: got true", s)
		}
	}
}

// R3: the building of a call is not changed.
func TestBuildingStays(t *testing.T) {
	b := plan()
	b.Cars = append(make([]api.Car, 0, 4), b.Cars...)
	for _, s := range someStates() {
		newcar.Step(b, 1, s, at(1, closed), 63, api.Calls{Up: 31})
		newcar.Blind(b, 0, s)
		newcar.Shows(b, s, at(1, open))
		newcar.Still(b, s, at(1, closed))
	}
	if !slices.Equal(b.Cars, plan().Cars) || b.Cars[:4][2] != (api.Car{}) || b.Cars[:4][3] != (api.Car{}) {
		t.Errorf("the cars have become %+v", b.Cars[:4])
	}
}
