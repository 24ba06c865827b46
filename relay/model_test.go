package relay_test

import (
	"math"
	"math/rand"
	"testing"

	"overlay/api"
	"overlay/building"
	"overlay/calls"
	"overlay/collective"
	"overlay/relay"
)

// isStateBySentences is what the chapter says of a state, sentence by sentence.
func isStateBySentences(b api.Building, s api.Relay) bool {
	switch {
	case building.Valid(b) != api.OK, s.Floor < 0, s.Floor >= b.Floors, s.Time < 0, s.Time > most:
		return false
	case s.Dir != none && s.Dir != up && s.Dir != down, !collective.IsSweep(api.Sweep{Dir: s.Dir, Opened: s.Opened}):
		return false
	}
	switch s.Stage {
	case idle, move:
		if s.Door != closed {
			return false
		}
	case waits:
		if s.Door != open {
			return false
		}
	case opens, closes:
		if s.Door != moving {
			return false
		}
	default:
		return false
	}
	if s.Stage == move && (s.Dir == none || s.Dir == up && s.Floor == b.Floors-1 || s.Dir == down && s.Floor == 0) {
		return false
	}
	if (s.Time == 0) != (s.Stage == idle) {
		return false
	}
	for floor := range 32 {
		for dir := up; dir <= down; dir++ {
			if calls.Has(s.Calls, floor, dir) && !building.IsCall(b, floor, dir) {
				return false
			}
		}
		if s.Car>>floor&1 == 1 && floor >= b.Floors {
			return false
		}
	}
	return true
}

// bySentences is P17.2 for a state, sentence by sentence.
func bySentences(b api.Building, car int, s api.Relay, inject api.Calls, press uint32) api.Relay {
	for floor := range b.Floors {
		bit := uint32(1) << floor
		if floor < b.Floors-1 {
			s.Calls.Up |= inject.Up & bit
		}
		if floor > 0 {
			s.Calls.Down |= inject.Down & bit
		}
		s.Car |= press & bit
	}
	if s.Time > 1 {
		s.Time = s.Time - 1
	} else if s.Stage == move {
		s.Floor += map[int]int{up: 1, down: -1}[s.Dir]
		s.Opened = 0
		s = decidedBySentences(b, car, s)
	} else if s.Stage == opens {
		s.Stage, s.Time, s.Door = waits, b.Cars[car].Dwell, open
	} else if s.Stage == waits {
		s.Stage, s.Time, s.Door = closes, b.Cars[car].Travel, moving
	} else {
		s = decidedBySentences(b, car, s)
	}
	if s.Stage == waits {
		bit := uint32(1) << s.Floor
		s.Car &^= bit
		if s.Dir == up {
			s.Calls.Up &^= bit
		} else if s.Dir == down {
			s.Calls.Down &^= bit
		}
	}
	return s
}

// decidedBySentences is what P17.2 says about deciding.
func decidedBySentences(b api.Building, car int, s api.Relay) api.Relay {
	w, l := api.Sweep{Dir: s.Dir, Opened: s.Opened}, api.Stops{Car: s.Car, Hall: s.Calls}
	next := api.Relay{Floor: s.Floor, Calls: s.Calls, Car: s.Car}
	next.Dir = collective.Next(b.Floors, w, s.Floor, l).Dir
	next.Opened = collective.Next(b.Floors, w, s.Floor, l).Opened
	switch collective.Choose(b.Floors, w, s.Floor, l).Do {
	case api.CmdOpen:
		next.Stage, next.Door, next.Time = opens, moving, b.Cars[car].Travel
	case api.CmdUp, api.CmdDown:
		next.Stage, next.Door, next.Time = move, closed, b.Cars[car].Step
	case api.CmdNone:
		next.Stage, next.Door, next.Time = idle, closed, 0
	}
	return next
}

// P17.1: fields that go together, and that do not.
func TestStatesBySentences(t *testing.T) {
	count := 0
	for _, floors := range []int{2, 3, 5, 31, 32, 33} {
		b := high(floors)
		for _, s := range someFields(floors) {
			want := isStateBySentences(b, s)
			if want {
				count++
			}
			if got := relay.IsState(b, s); got != want {
				t.Fatalf("%d floors, IsState(%+v): got %t", floors, s, got)
			}
			if got := relay.Step(b, 0, s, api.Calls{}, 0); !want && got != relay.New(0) {
				t.Fatalf("%d floors, Step of %+v: got %+v", floors, s, got)
			}
		}
	}
	if count < 1000 {
		t.Errorf("only %d states", count)
	}
}

// someFields are cars without calls, with numbers at the ends of their ranges and others.
func someFields(floors int) (l []api.Relay) {
	stages := []int{idle, move, opens, waits, closes, 5, -1, 1<<32 + move, math.MinInt + waits}
	places := []int{0, 1, floors - 2, floors - 1, floors, -1, 1 << 32}
	for _, floor := range places {
		for _, stage := range stages {
			for _, dir := range []int{none, up, down, api.DirBad, -1, 1<<32 + up} {
				for _, opened := range []int{0, 1, 7, 8, -1, 1<<32 + 1} {
					for _, door := range []int{moving, open, closed, api.DoorBad, -1, 1<<32 + open} {
						for _, time := range []int{0, 1, 2, most, most + 1, -1, 1<<32 + 1} {
							l = append(l, api.Relay{Stage: stage, Floor: floor, Dir: dir, Opened: opened, Door: door, Time: time})
						}
					}
				}
			}
		}
	}
	return l
}

// expectModel compares Step, and looks at what never happens in a tick.
func expectModel(t *testing.T, b api.Building, car int, s api.Relay, inject api.Calls, press uint32) api.Relay {
	t.Helper()
	next := relay.Step(b, car, s, inject, press)
	if want := bySentences(b, car, s, inject, press); next != want {
		t.Fatalf("%+v, car %d: Step of %+v with %+v and %b:\ngot  %+v\nwant %+v", b, car, s, inject, press, next, want)
	}
	expectSound(t, b, s, inject, press, next)
	return next
}

// expectSound looks at what never happens in a tick: that there is no state behind it, that the car leaves its floor
// for another one than the next, or with a door that is not closed, and that a call is lost that has not been shown, or
// comes from nowhere.
func expectSound(t *testing.T, b api.Building, s api.Relay, inject api.Calls, press uint32, next api.Relay) {
	t.Helper()
	before, behind := relay.Contacts(s), relay.Contacts(next)
	moved := next.Floor != s.Floor
	far := max(next.Floor-s.Floor, s.Floor-next.Floor)
	hall := calls.Union(s.Calls, calls.Both(inject, building.Hall(b)))
	keys := s.Car | press&(1<<b.Floors-1)
	switch {
	case !relay.IsState(b, next):
		t.Fatalf("%+v: behind Step of %+v is no state: %+v", b, s, next)
	case far > 1, moved && (!before.Closed || before.Floors != 0), behind.Floors == 0 && !behind.Closed:
		t.Fatalf("%+v: Step of %+v: %+v", b, s, next)
	case calls.Minus(next.Calls, hall) != api.Calls{}, calls.Minus(calls.Minus(hall, next.Calls), shows(b, next)) != api.Calls{}:
		t.Fatalf("%+v: Step of %+v with %+v: hall calls %+v", b, s, inject, next.Calls)
	case next.Car&^keys != 0, keys&^next.Car != 0 && (keys&^next.Car != behind.Floors || !behind.Open):
		t.Fatalf("%+v: Step of %+v with %b: car calls %b", b, s, press, next.Car)
	case calls.Both(next.Calls, shows(b, next)) != api.Calls{}, behind.Open && next.Car&behind.Floors != 0:
		t.Fatalf("%+v: Step of %+v: it is shown, and held: %+v", b, s, next)
	}
}

// P17.2: all states of a car in a building with two floors near the ends of its stages, all calls, and some that do not
// exist.
func TestTwoFloors(t *testing.T) {
	b := small(2, 3, 2, 4)
	for _, s := range states(2, 1, 2, 3, most) {
		for held := range uint32(16) {
			s := holding(s, held>>3, held>>1&2, held&3)
			for told := range uint32(128) {
				inject := api.Calls{Up: told >> 5, Down: told >> 3 & 3}
				expectModel(t, b, 0, s, inject, told&7)
			}
		}
	}
}

// P17.2: all states of a car without calls, with samples of calls.
func TestFewFloors(t *testing.T) {
	r := rand.New(rand.NewSource(17))
	for floors := 3; floors <= 8; floors++ {
		b := high(floors)
		for _, s := range states(floors, 1, 2, most) {
			for range 100 {
				held := holding(s, someBits(r), someBits(r), someBits(r)&(1<<floors-1))
				held.Calls = calls.Both(held.Calls, building.Hall(b))
				expectModel(t, b, r.Intn(2), held, api.Calls{Up: someBits(r), Down: someBits(r)}, someBits(r))
			}
		}
	}
}

// someBits are few bits, or all.
func someBits(r *rand.Rand) uint32 {
	switch r.Intn(5) {
	case 0:
		return 0
	case 1:
		return 1<<r.Intn(32) | 1<<r.Intn(9)
	case 2:
		return math.MaxUint32
	case 3:
		return r.Uint32()
	}
	return r.Uint32() & r.Uint32() & r.Uint32()
}

// someTime is a time of a car, most often a short one.
func someTime(r *rand.Rand) int {
	switch r.Intn(8) {
	case 0:
		return 1 + r.Intn(api.MaxTime)
	case 1:
		return api.MaxTime
	}
	return 1 + r.Intn(9)
}

// someBuilding is any building.
func someBuilding(r *rand.Rand) api.Building {
	b := plan()
	b.Floors, b.Room, b.Cars = 2+r.Intn(31), 9999, nil
	for range 1 + r.Intn(8) {
		dwell := someTime(r)
		b.Cars = append(b.Cars, api.Car{Deadline: 9, Pulse: 9, Quiet: 9, Step: someTime(r), Travel: someTime(r), Dwell: dwell, Hold: min(dwell+r.Intn(3), api.MaxTime), Home: r.Intn(b.Floors)})
	}
	return b
}

// P17.2: samples of runs in any buildings; the times of stages that take long are cut short now and then.
func TestRuns(t *testing.T) {
	r := rand.New(rand.NewSource(18))
	for range 1500 {
		b := someBuilding(r)
		car, s, busy := r.Intn(len(b.Cars)), relay.New(r.Intn(b.Floors)), 1+r.Intn(40)
		for range 200 {
			inject, press := api.Calls{}, uint32(0)
			if r.Intn(busy) == 0 {
				inject, press = api.Calls{Up: someBits(r), Down: someBits(r)}, someBits(r)
			}
			s = expectModel(t, b, car, s, inject, press)
			if r.Intn(4) == 0 {
				s.Time = min(s.Time, 2)
			}
		}
	}
}
