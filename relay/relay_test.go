package relay_test

import (
	"math"
	"reflect"
	"slices"
	"testing"

	"overlay/api"
	"overlay/building"
	"overlay/relay"
)

const (
	none, up, down             = api.DirNone, api.DirUp, api.DirDown
	idle, move                 = api.RelayIdle, api.RelayMove
	opens, waits, closes       = api.RelayOpen, api.RelayWait, api.RelayClose
	moving, open, closed       = api.DoorMoving, api.DoorOpen, api.DoorClosed
	openedNone, openedUp       = 1, 2
	openedDown, openedAnything = 4, 7
	most                       = api.MaxCount
)

// at is a car without calls; its door goes with its stage.
func at(stage, floor, dir, opened, time int) api.Relay {
	door := map[int]int{idle: closed, move: closed, opens: moving, waits: open, closes: moving}[stage]
	return api.Relay{Stage: stage, Floor: floor, Dir: dir, Opened: opened, Door: door, Time: time}
}

// resting is a car that has nothing to do.
func resting(floor int) api.Relay {
	return at(idle, floor, none, 0, 0)
}

// holding is a car whose relays hold calls.
func holding(s api.Relay, up, down, car uint32) api.Relay {
	s.Calls, s.Car = api.Calls{Up: up, Down: down}, car
	return s
}

// plan is a building with five floors and two cars.
func plan() api.Building {
	return api.Building{Floors: 5, Debounce: 2, Room: 200, Park: 3, Empty: 0.125, Full: 0.75, Over: 1.125, Cars: []api.Car{
		{Deadline: 101, Pulse: 102, Quiet: 103, Slack: 104, Step: 4, Travel: 2, Dwell: 6, Hold: 10, Home: 2},
		{Deadline: 105, Pulse: 106, Quiet: 107, Slack: 108, Step: 7, Travel: 3, Dwell: 5, Hold: 9, Home: 4},
	}}
}

// changed is the plan with a change.
func changed(change func(b *api.Building)) api.Building {
	b := plan()
	change(&b)
	return b
}

// high is the plan with so many floors.
func high(floors int) api.Building {
	return changed(func(b *api.Building) {
		b.Floors, b.Cars[0].Home, b.Cars[1].Home = floors, 0, floors-1
	})
}

// noBuildings are not valid.
func noBuildings() []api.Building {
	l := []api.Building{{}, high(1), high(0), high(-1), high(33), high(64), high(1<<32 + 5), high(math.MaxInt), high(math.MinInt)}
	for _, change := range []func(b *api.Building){
		func(b *api.Building) { b.Cars = nil },
		func(b *api.Building) { b.Cars = slices.Repeat(b.Cars, 5) },
		func(b *api.Building) { b.Debounce = 0 },
		func(b *api.Building) { b.Park = 0 },
		func(b *api.Building) { b.Room = 59 },
		func(b *api.Building) { b.Full = math.NaN() },
		func(b *api.Building) { b.Cars[1].Deadline = 0 },
		func(b *api.Building) { b.Cars[1].Pulse = 0 },
		func(b *api.Building) { b.Cars[1].Step = 0 },
		func(b *api.Building) { b.Cars[0].Step = api.MaxTime + 1 },
		func(b *api.Building) { b.Cars[1].Travel = -1 },
		func(b *api.Building) { b.Cars[1].Dwell = 10 },
		func(b *api.Building) { b.Cars[1].Slack = -1 },
		func(b *api.Building) { b.Cars[1].Home = 5 },
	} {
		l = append(l, changed(change))
	}
	return l
}

// noCars are numbers of cars that the plan does not have.
var noCars = []int{2, 3, -1, -2, 8, 256, 1 << 32, 1<<32 + 1, math.MaxInt, math.MinInt, math.MinInt + 1}

// outside are numbers that are no floor of a building.
func outside(floors int) []int {
	return []int{-1, -2, -floors, -32, floors, floors + 1, 32, 33, 64, 256, 1 << 32, 1<<32 + 1, math.MaxInt, math.MaxInt - 1, math.MinInt, math.MinInt + 1}
}

// states are those of a building of so many floors without calls, with these times of what ends.
func states(floors int, times ...int) []api.Relay {
	var l []api.Relay
	for floor := range floors {
		for opened := range 8 {
			for dir := none; dir <= down; dir++ {
				l = append(l, at(idle, floor, dir, opened, 0))
				for _, time := range times {
					l = append(l, at(opens, floor, dir, opened, time), at(waits, floor, dir, opened, time), at(closes, floor, dir, opened, time))
				}
			}
			for _, time := range times {
				if floor < floors-1 {
					l = append(l, at(move, floor, up, opened, time))
				}
				if floor > 0 {
					l = append(l, at(move, floor, down, opened, time))
				}
			}
		}
	}
	return l
}

// P17.1: a car with nothing to do; New does not ask whether there is such a floor.
func TestNew(t *testing.T) {
	for _, floor := range append([]int{0, 1, 2, 5, 30, 31}, outside(4)...) {
		got, want := relay.New(floor), api.Relay{Stage: api.RelayIdle, Floor: floor, Dir: api.DirNone, Door: api.DoorClosed}
		if got != want {
			t.Errorf("New(%d): got %+v", floor, got)
		}
		for floors := 2; floors <= 32; floors++ {
			if relay.IsState(high(floors), got) != (0 <= floor && floor < floors) {
				t.Errorf("%d floors, IsState(%+v): got %t", floors, got, relay.IsState(high(floors), got))
			}
		}
	}
}

// P17.1: the states without calls, those with all calls, and those with one that does not exist.
func TestIsState(t *testing.T) {
	for floors := 2; floors <= 32; floors++ {
		b := high(floors)
		floorBits := uint32(1<<floors - 1)
		allUp, allDown := floorBits>>1, floorBits-1
		for _, s := range states(floors, 1, 2, 255, 256, 65536, most-1, most) {
			if !relay.IsState(b, s) || !relay.IsState(b, holding(s, allUp, allDown, floorBits)) {
				t.Errorf("%d floors, IsState(%+v): got false", floors, s)
			}
		}
		for bit := range 32 {
			one := uint32(1) << bit
			for _, s := range []api.Relay{resting(0), at(waits, 1, up, openedUp, 3), at(move, 0, up, 0, 1)} {
				for _, x := range []struct {
					s    api.Relay
					want bool
				}{
					{holding(s, one, 0, 0), bit < floors-1}, {holding(s, allUp|one, allDown, floorBits), bit < floors-1},
					{holding(s, 0, one, 0), 0 < bit && bit < floors}, {holding(s, allUp, allDown|one, floorBits), 0 < bit && bit < floors},
					{holding(s, 0, 0, one), bit < floors}, {holding(s, allUp, allDown, floorBits|one), bit < floors},
				} {
					if relay.IsState(b, x.s) != x.want {
						t.Errorf("%d floors, IsState(%+v): want %t", floors, x.s, x.want)
					}
				}
			}
		}
	}
}

// P17.1: what is no state of the plan, as one field is none, or does not go with another.
func TestIsNoState(t *testing.T) {
	for _, s := range noStates() {
		if relay.IsState(plan(), s) {
			t.Errorf("IsState(%+v): got true", s)
		}
	}
}

// noStates are no states of the plan.
func noStates() []api.Relay {
	l := []api.Relay{
		{}, {Door: open}, {Door: api.DoorBad}, at(idle, 2, up, 0, 1), at(idle, 2, none, 0, -1), at(idle, 2, none, 0, 256), at(idle, 2, none, 0, 65536), at(idle, 2, none, 0, most), at(idle, 2, none, 0, 1<<32),
		at(5, 2, none, 0, 1), at(5, 2, none, 0, 0), at(-1, 2, none, 0, 1), at(1<<32, 2, none, 0, 0),
		at(move, 4, up, 0, 1), at(move, 0, down, 0, 1), at(move, 2, none, 0, 1), at(move, 2, api.DirBad, 0, 1),
		at(move, 2, up, 0, 0), at(opens, 2, up, openedUp, 0), at(waits, 2, up, openedUp, 0), at(closes, 2, up, openedUp, 0),
		at(move, 2, up, 0, -1), at(opens, 2, up, openedUp, -1), at(waits, 2, up, openedUp, -1), at(closes, 2, up, openedUp, -1),
		at(move, 2, up, 0, most+1), at(opens, 2, up, openedUp, most+1), at(waits, 2, up, openedUp, most+1), at(closes, 2, up, openedUp, most+1),
		holding(resting(2), 16, 0, 0), holding(resting(2), 32, 0, 0), holding(resting(2), 0, 1, 0), holding(resting(2), 0, 32, 0), holding(resting(2), 0, 0, 32), holding(resting(2), 1<<31, 0, 0),
	}
	for _, s := range []api.Relay{resting(2), at(move, 2, down, 0, 5), at(opens, 2, up, openedUp, 5), at(waits, 2, up, openedUp, 5), at(closes, 2, up, openedUp, 5)} {
		for _, floor := range outside(5) {
			s.Floor = floor
			l = append(l, s)
		}
		s.Floor = 2
		for _, door := range []int{moving, open, closed, api.DoorBad, -1, 4, 1 << 32, 1<<32 + open, 1<<32 + closed} {
			if wrong := s; door != s.Door {
				wrong.Door = door
				l = append(l, wrong)
			}
		}
		for _, number := range []int{8, 9, 15, 16, -1, -8, 256, 1 << 32, 1<<32 + 1, math.MaxInt, math.MinInt} {
			wrongDir, wrongOpened := s, s
			wrongDir.Dir, wrongOpened.Opened = number, number
			l = append(l, wrongDir, wrongOpened)
		}
		for _, dir := range []int{api.DirBad, 4} {
			s.Dir = dir
			l = append(l, s)
		}
	}
	return l
}

// P17.1: a building that is not valid has no states.
func TestIsStateOfNoBuilding(t *testing.T) {
	for _, b := range noBuildings() {
		for _, s := range states(5, 1, most) {
			if relay.IsState(b, s) {
				t.Errorf("%+v: IsState(%+v): got true", b, s)
			}
		}
	}
}

// sentence is an example of what P17.2 says, for car 1 of the plan.
type sentence struct {
	s      api.Relay
	inject api.Calls
	press  uint32
	next   api.Relay
}

func expectSentences(t *testing.T, l []sentence) {
	t.Helper()
	for _, x := range l {
		if next := relay.Step(plan(), 1, x.s, x.inject, x.press); next != x.next {
			t.Errorf("Step of %+v with %+v and %b:\ngot  %+v\nwant %+v", x.s, x.inject, x.press, next, x.next)
		}
	}
}

// nothing is no hall call.
var nothing = api.Calls{}

// P17.2: calls that exist are added, to what is held already.
func TestAdds(t *testing.T) {
	s := at(move, 2, up, 0, 7)
	later := at(move, 2, up, 0, 6)
	expectSentences(t, []sentence{
		{s, nothing, 0, later},
		{s, api.Calls{Up: 1}, 0, holding(later, 1, 0, 0)},
		{s, api.Calls{Up: 8}, 0, holding(later, 8, 0, 0)},
		{s, api.Calls{Down: 2}, 0, holding(later, 0, 2, 0)},
		{s, api.Calls{Down: 16}, 0, holding(later, 0, 16, 0)},
		{s, nothing, 1, holding(later, 0, 0, 1)},
		{s, nothing, 16, holding(later, 0, 0, 16)},
		{s, api.Calls{Up: 4, Down: 4}, 4, holding(later, 4, 4, 4)},
		{s, api.Calls{Up: 16}, 0, later},
		{s, api.Calls{Up: 1 << 31}, 0, later},
		{s, api.Calls{Down: 1}, 0, later},
		{s, api.Calls{Down: 32}, 0, later},
		{s, nothing, 32, later},
		{s, nothing, 1 << 31, later},
		{s, api.Calls{Up: math.MaxUint32, Down: math.MaxUint32}, math.MaxUint32, holding(later, 15, 30, 31)},
		{holding(s, 1, 4, 16), nothing, 0, holding(later, 1, 4, 16)},
		{holding(s, 1, 4, 16), api.Calls{Up: 8, Down: 2}, 1, holding(later, 9, 6, 17)},
		{holding(s, 1, 4, 16), api.Calls{Up: 1, Down: 4}, 16, holding(later, 1, 4, 16)},
		{holding(s, 15, 30, 31), api.Calls{Up: 16, Down: 1}, 32, holding(later, 15, 30, 31)},
	})
}

// P17.2: with a time above 1 it becomes one less, and no stage is over.
func TestTimePasses(t *testing.T) {
	for _, time := range []int{2, 3, 5, 7, 128, 256, 257, 65536, api.MaxTime, api.MaxTime + 1, most - 1, most} {
		for _, s := range states(5, time) {
			if s.Stage == idle {
				continue
			}
			next := s
			next.Time = time - 1
			expectSentences(t, []sentence{{s, nothing, 0, next}})
		}
	}
	expectSentences(t, []sentence{
		{holding(at(opens, 2, up, openedUp, 2), 4, 4, 4), nothing, 0, holding(at(opens, 2, up, openedUp, 1), 4, 4, 4)},
		{holding(at(closes, 2, up, openedUp, 3), 4, 4, 4), nothing, 0, holding(at(closes, 2, up, openedUp, 2), 4, 4, 4)},
		{holding(at(move, 2, up, openedUp, 3), 4, 4, 4), nothing, 0, holding(at(move, 2, up, openedUp, 2), 4, 4, 4)},
	})
}

// P17.2: a step is over: the car comes to the next floor, where its door has not been opened, and decides.
func TestArrives(t *testing.T) {
	expectSentences(t, []sentence{
		{at(move, 2, up, 0, 1), nothing, 0, resting(3)},
		{at(move, 3, up, 0, 1), nothing, 0, resting(4)},
		{at(move, 2, down, 0, 1), nothing, 0, resting(1)},
		{at(move, 1, down, openedAnything, 1), nothing, 0, resting(0)},
		{holding(at(move, 2, up, 0, 1), 0, 0, 16), nothing, 0, holding(at(move, 3, up, 0, 7), 0, 0, 16)},
		{holding(at(move, 2, down, 0, 1), 1, 0, 0), nothing, 0, holding(at(move, 1, down, 0, 7), 1, 0, 0)},
		{holding(at(move, 2, up, 0, 1), 8, 0, 0), nothing, 0, holding(at(opens, 3, up, openedUp, 3), 8, 0, 0)},
		{at(move, 2, up, 0, 1), api.Calls{Down: 8}, 0, holding(at(opens, 3, down, openedDown, 3), 0, 8, 0)},
		{at(move, 2, up, 0, 1), nothing, 8, holding(at(opens, 3, none, openedNone, 3), 0, 0, 8)},
		{at(move, 2, up, 0, 1), nothing, 8 + 16, holding(at(opens, 3, up, openedUp, 3), 0, 0, 8+16)},
		{at(move, 2, up, openedAnything, 1), nothing, 8 + 16, holding(at(opens, 3, up, openedUp, 3), 0, 0, 8+16)},
		{at(move, 2, down, openedDown, 1), api.Calls{Down: 2}, 1, holding(at(opens, 1, down, openedDown, 3), 0, 2, 1)},
		{holding(at(move, 2, up, 0, 1), 0, 0, 4), nothing, 0, holding(at(move, 3, down, 0, 7), 0, 0, 4)}, // it turns
		{holding(at(move, 2, down, 0, 1), 4, 0, 0), nothing, 0, holding(at(move, 1, up, 0, 7), 4, 0, 0)},
	})
}

// P17.2: the door is open; it waits, and what the car shows is served.
func TestOpens(t *testing.T) {
	expectSentences(t, []sentence{
		{at(opens, 2, up, openedUp, 1), nothing, 0, at(waits, 2, up, openedUp, 5)},
		{at(opens, 2, none, openedNone, 1), nothing, 0, at(waits, 2, none, openedNone, 5)},
		{holding(at(opens, 2, up, openedUp, 1), 15, 30, 31), nothing, 0, holding(at(waits, 2, up, openedUp, 5), 11, 30, 27)},
		{holding(at(opens, 2, down, openedDown, 1), 15, 30, 31), nothing, 0, holding(at(waits, 2, down, openedDown, 5), 15, 26, 27)},
		{holding(at(opens, 2, none, openedNone, 1), 15, 30, 31), nothing, 0, holding(at(waits, 2, none, openedNone, 5), 15, 30, 27)},
		{at(opens, 2, up, openedUp, 1), api.Calls{Up: 15, Down: 30}, 31, holding(at(waits, 2, up, openedUp, 5), 11, 30, 27)},
		{at(opens, 0, up, openedUp, 1), api.Calls{Up: 15, Down: 30}, 31, holding(at(waits, 0, up, openedUp, 5), 14, 30, 30)},
		{at(opens, 4, down, openedDown, 1), api.Calls{Up: 15, Down: 30}, 31, holding(at(waits, 4, down, openedDown, 5), 15, 14, 15)},
	})
}

// P17.2: while the door waits, what comes is served at once, until the tick in which it begins to close.
func TestWaits(t *testing.T) {
	expectSentences(t, []sentence{
		{at(waits, 2, up, openedUp, 5), api.Calls{Up: 15, Down: 30}, 31, holding(at(waits, 2, up, openedUp, 4), 11, 30, 27)},
		{at(waits, 2, up, openedUp, 2), api.Calls{Up: 4}, 4, at(waits, 2, up, openedUp, 1)},
		{at(waits, 2, down, openedDown, 5), api.Calls{Up: 4, Down: 4}, 4, holding(at(waits, 2, down, openedDown, 4), 4, 0, 0)},
		{at(waits, 2, none, openedNone, 5), api.Calls{Up: 4, Down: 4}, 4, holding(at(waits, 2, none, openedNone, 4), 4, 4, 0)},
		{holding(at(waits, 2, up, openedUp, 5), 4, 0, 4), nothing, 0, at(waits, 2, up, openedUp, 4)}, // no run holds these, but a state does
		{at(waits, 2, up, openedUp, 1), nothing, 0, at(closes, 2, up, openedUp, 3)},
		{at(waits, 2, up, openedUp, 1), api.Calls{Up: 4, Down: 4}, 4, holding(at(closes, 2, up, openedUp, 3), 4, 4, 4)},
		{holding(at(waits, 2, none, openedNone, 1), 4, 4, 4), nothing, 0, holding(at(closes, 2, none, openedNone, 3), 4, 4, 4)},
	})
}

// P17.2: the door is closed, and the car decides; how often it has opened its door here counts.
func TestCloses(t *testing.T) {
	expectSentences(t, []sentence{
		{at(closes, 2, up, openedUp, 1), nothing, 0, resting(2)},
		{holding(at(closes, 2, up, openedUp, 1), 4, 0, 0), nothing, 0, holding(at(opens, 2, up, openedUp, 3), 4, 0, 0)},
		{at(closes, 2, up, openedUp, 1), api.Calls{Up: 4}, 0, holding(at(opens, 2, up, openedUp, 3), 4, 0, 0)},
		{at(closes, 2, up, openedUp, 1), nothing, 4, holding(at(opens, 2, none, openedNone, 3), 0, 0, 4)},
		{at(closes, 2, up, openedUp, 1), api.Calls{Down: 4}, 0, holding(at(opens, 2, down, openedUp|openedDown, 3), 0, 4, 0)},
		{holding(at(closes, 2, up, openedUp, 1), 4, 0, 4), nothing, 16, holding(at(move, 2, up, 0, 7), 4, 0, 4+16)},
		{at(closes, 2, up, openedUp, 1), nothing, 1, holding(at(move, 2, down, 0, 7), 0, 0, 1)},
		{at(closes, 2, up, 0, 1), api.Calls{Up: 4}, 16, holding(at(opens, 2, up, openedUp, 3), 4, 0, 16)}, // its door has not been opened here
	})
}

// P17.2: a car that has nothing to do decides in each tick.
func TestIdle(t *testing.T) {
	expectSentences(t, []sentence{
		{resting(2), nothing, 0, resting(2)},
		{at(idle, 2, up, openedAnything, 0), nothing, 0, resting(2)},
		{resting(2), api.Calls{Up: 8}, 0, holding(at(move, 2, up, 0, 7), 8, 0, 0)},
		{resting(2), nothing, 1, holding(at(move, 2, down, 0, 7), 0, 0, 1)},
		{resting(2), nothing, 1 + 16, holding(at(move, 2, up, 0, 7), 0, 0, 1+16)},
		{at(idle, 2, down, 0, 0), nothing, 1 + 16, holding(at(move, 2, down, 0, 7), 0, 0, 1+16)},
		{resting(2), api.Calls{Up: 4, Down: 4}, 0, holding(at(opens, 2, up, openedUp, 3), 4, 4, 0)},
		{resting(2), nothing, 4, holding(at(opens, 2, none, openedNone, 3), 0, 0, 4)},
		{holding(resting(2), 0, 4, 0), nothing, 0, holding(at(opens, 2, down, openedDown, 3), 0, 4, 0)},
		{holding(at(idle, 2, up, openedUp, 0), 4, 0, 0), nothing, 8, holding(at(move, 2, up, 0, 7), 4, 0, 8)},
	})
}

// P17.2: the times are those of the car.
func TestTimesOfCars(t *testing.T) {
	for car, c := range plan().Cars {
		for _, x := range []struct{ s, next api.Relay }{
			{holding(resting(2), 0, 0, 1), holding(at(move, 2, down, 0, c.Step), 0, 0, 1)},
			{holding(resting(2), 0, 0, 4), holding(at(opens, 2, none, openedNone, c.Travel), 0, 0, 4)},
			{at(opens, 2, none, openedNone, 1), at(waits, 2, none, openedNone, c.Dwell)},
			{at(waits, 2, none, openedNone, 1), at(closes, 2, none, openedNone, c.Travel)},
		} {
			if next := relay.Step(plan(), car, x.s, nothing, 0); next != x.next {
				t.Errorf("car %d, Step of %+v: got %+v, want %+v", car, x.s, next, x.next)
			}
		}
	}
}

// P17.2: behind what is no state, for a car that does not exist, and in a building that is not valid a car stands at
// floor 0, whatever is injected and pressed.
func TestStepOfNoState(t *testing.T) {
	expect := func(b api.Building, car int, s api.Relay) {
		t.Helper()
		for _, inject := range []api.Calls{nothing, {Up: 15, Down: 30}} {
			for _, press := range []uint32{0, 31} {
				if got := relay.Step(b, car, s, inject, press); got != resting(0) {
					t.Errorf("%+v, car %d: Step of %+v with %+v and %b: got %+v", b, car, s, inject, press, got)
				}
			}
		}
	}
	for _, s := range noStates() {
		expect(plan(), 0, s)
		expect(plan(), 1, s)
	}
	for _, s := range states(5, 1, 2, most) {
		for _, car := range noCars {
			expect(plan(), car, s)
		}
		for _, b := range noBuildings() {
			expect(b, 0, s)
		}
	}
}

// P17.3: the contacts of cars, also of those that are no state.
func TestContacts(t *testing.T) {
	for _, x := range []struct {
		s    api.Relay
		want api.Contacts
	}{
		{resting(0), api.Contacts{Floors: 1, Closed: true}},
		{resting(31), api.Contacts{Floors: 1 << 31, Closed: true}},
		{at(idle, 3, up, 0, 0), api.Contacts{Floors: 8, Up: true, Closed: true}},
		{at(move, 2, up, 0, 4), api.Contacts{Up: true, Closed: true}},
		{at(move, 2, down, 7, 1), api.Contacts{Down: true, Closed: true}},
		{at(move, 2, none, 0, 0), api.Contacts{Closed: true}},
		{at(opens, 2, down, openedDown, 1), api.Contacts{Floors: 4, Down: true}},
		{at(opens, 2, none, openedNone, 1), api.Contacts{Floors: 4}},
		{at(waits, 1, up, openedUp, 9), api.Contacts{Floors: 2, Up: true, Open: true}},
		{at(waits, 1, down, openedDown, most), api.Contacts{Floors: 2, Down: true, Open: true}},
		{at(waits, 1, none, openedNone, 1), api.Contacts{Floors: 2, Open: true}},
		{at(closes, 4, up, openedUp, 2), api.Contacts{Floors: 16, Up: true}},
		{holding(at(closes, 4, up, openedUp, 2), 1, 2, 4), api.Contacts{Floors: 16, Up: true}},
		{api.Relay{Dir: api.DirBad, Door: api.DoorBad}, api.Contacts{Floors: 1}},
		{api.Relay{Stage: 5, Floor: 7, Dir: -1, Door: -1}, api.Contacts{Floors: 128}},
		{api.Relay{Stage: 1<<32 + move, Dir: 1<<32 + up, Door: 1<<32 + open}, api.Contacts{Floors: 1}},
		{api.Relay{Stage: 256 + move, Dir: 1<<32 + down, Door: 1<<32 + closed}, api.Contacts{Floors: 1}},
	} {
		if got := relay.Contacts(x.s); got != x.want {
			t.Errorf("Contacts(%+v): got %+v, want %+v", x.s, got, x.want)
		}
	}
	for _, floor := range outside(32) {
		for _, s := range []api.Relay{resting(floor), at(opens, floor, none, 0, 1), at(closes, floor, none, 0, 1)} {
			if got := relay.Contacts(s); got.Floors != 0 || got.Closed != (s.Stage == idle) || got.Up || got.Down || got.Open {
				t.Errorf("Contacts(%+v): got %+v", s, got)
			}
		}
	}
	for floor := range 32 {
		if got := relay.Contacts(resting(floor)); got != (api.Contacts{Floors: 1 << floor, Closed: true}) {
			t.Errorf("at floor %d: got %+v", floor, got)
		}
	}
}

// P17.4: (3 * F + 1) * (3 * (2 * Travel + Dwell) + Step + 2).
func TestPromise(t *testing.T) {
	times := func(floors, step, travel, dwell int) api.Building {
		b := high(floors)
		b.Cars[1].Step, b.Cars[1].Travel, b.Cars[1].Dwell, b.Cars[1].Hold = step, travel, dwell, api.MaxTime
		return b
	}
	for _, x := range []struct {
		b         api.Building
		car, want int
	}{
		{plan(), 0, 16 * (3*10 + 6)}, {plan(), 1, 16 * (3*11 + 9)},
		{times(2, 1, 1, 1), 1, 7 * 12}, {times(3, 100, 1, 1), 1, 10 * 111}, {times(4, 1, 100, 1), 1, 13 * 606}, {times(32, 1, 1, 100), 1, 97 * 309},
		{times(32, api.MaxTime, api.MaxTime, api.MaxTime), 1, 97 * 100002},
	} {
		if got := relay.Promise(x.b, x.car); got != x.want {
			t.Errorf("%+v, car %d: got %d, want %d", x.b, x.car, got, x.want)
		}
	}
	for _, car := range noCars {
		if got := relay.Promise(plan(), car); got != 0 {
			t.Errorf("car %d: got %d", car, got)
		}
	}
	for _, b := range noBuildings() {
		if got := relay.Promise(b, 0); got != 0 || building.Valid(b) == api.OK {
			t.Errorf("%+v: got %d", b, got)
		}
	}
}

// R3: the building is not changed.
func TestBuildingStays(t *testing.T) {
	b := plan()
	for _, s := range states(5, 1, 2) {
		for car := range b.Cars {
			relay.Step(b, car, s, api.Calls{Up: 15, Down: 30}, 31)
			relay.Promise(b, car)
		}
	}
	if !reflect.DeepEqual(b, plan()) {
		t.Errorf("got %+v", b)
	}
}
