package rig_test

import (
	"math"
	"math/rand"
	"testing"

	"overlay/api"
	"overlay/newcar"
	"overlay/rig"
)

// bySentences is P16.2 for a state, sentence by sentence.
func bySentences(floors int, s api.Rig, cmd, time int) api.Rig {
	if time < 1 {
		time = 1
	} else if time > most {
		time = most
	}
	if s.Left != 0 {
		s.Left = s.Left - 1
		if s.Left == 0 {
			s.Floor = s.Target
		}
		return s
	}
	if cmd == up && s.Door == closed && s.Floor+1 < floors || cmd == down && s.Door == closed && s.Floor > 0 {
		s.Target = s.Floor + map[int]int{up: 1, down: -1}[cmd]
		s.Left = time - 1
		if s.Left == 0 {
			s.Floor = s.Target
		}
		return s
	}
	aim, known := map[int]int{toOpen: open, toClose: closed, toNudge: closed}[cmd]
	if !known {
		aim = s.Aim
	}
	if aim == moving || s.Door == aim {
		return s
	}
	if s.Door == moving && aim == s.Aim {
		s.Ticks = s.Ticks - 1
	} else {
		s = api.Rig{Floor: s.Floor, Target: s.Target, Left: s.Left, Door: moving, Aim: aim, Ticks: time - 1}
	}
	if s.Ticks == 0 {
		s.Door, s.Aim = aim, moving
	}
	return s
}

// expectModel compares Step, and looks at what never happens in a tick: behind it is a state, the car has left its floor
// for the next one at most, and it and its door have not moved together.
func expectModel(t *testing.T, floors int, s api.Rig, cmd, time int) api.Rig {
	t.Helper()
	next := rig.Step(floors, s, cmd, time)
	if want := bySentences(floors, s, cmd, time); next != want {
		t.Fatalf("%d floors, Step of %+v with command %d and time %d: got %+v, want %+v", floors, s, cmd, time, next, want)
	}
	if !rig.IsState(floors, next) {
		t.Fatalf("%d floors, behind Step of %+v with command %d and time %d is no state: %+v", floors, s, cmd, time, next)
	}
	far := max(next.Floor-s.Floor, s.Floor-next.Floor)
	rides := far != 0 || s.Left != 0 || next.Left != 0
	if far > 1 || rides && (s.Door != closed || next.Door != closed) {
		t.Fatalf("%d floors, Step of %+v with command %d and time %d: %+v", floors, s, cmd, time, next)
	}
	return next
}

// P16.2: all states of drives with up to six floors near the ends of the times, and all commands.
func TestFewFloors(t *testing.T) {
	for floors := 2; floors <= 6; floors++ {
		for _, s := range states(floors, 1, 2, 3, 9, most-1, most) {
			for _, cmd := range commands {
				for _, time := range []int{math.MinInt, -1, 0, 1, 2, 3, 7, most - 1, most, most + 1, math.MaxInt} {
					expectModel(t, floors, s, cmd, time)
				}
			}
		}
	}
}

// P16.2: drives with more floors.
func TestManyFloors(t *testing.T) {
	for floors := 7; floors <= 32; floors++ {
		for _, s := range states(floors, 1, 2, 255, most) {
			for cmd := -1; cmd <= 6; cmd++ {
				for _, time := range []int{0, 1, 2, 257, most + 1} {
					expectModel(t, floors, s, cmd, time)
				}
			}
		}
	}
}

// someTime is any time, most often a short one.
func someTime(r *rand.Rand) int {
	switch r.Intn(6) {
	case 0:
		return 1 + r.Intn(most)
	case 1:
		return int(r.Uint64())
	}
	return r.Intn(5)
}

func someCommand(r *rand.Rand) int {
	if r.Intn(12) == 0 {
		return int(r.Uint64())
	}
	return r.Intn(7)
}

// P16.2: whole runs in which anything is commanded; the car never leaves the building, and never moves with an open door.
func TestRuns(t *testing.T) {
	r := rand.New(rand.NewSource(16))
	for range 4000 {
		floors := 2 + r.Intn(31)
		s := rig.New(r.Intn(floors))
		for range 100 {
			time := 1 + r.Intn(3)
			if r.Intn(20) == 0 {
				time = someTime(r)
			}
			s = expectModel(t, floors, s, someCommand(r), time)
		}
	}
}

// someRig is any state of a drive.
func someRig(r *rand.Rand, floors int) api.Rig {
	floor, time := r.Intn(floors), 1+r.Intn(3)
	if r.Intn(4) == 0 {
		time = 1 + r.Intn(most)
	}
	switch r.Intn(4) {
	case 0:
		return standing(floor, open+r.Intn(2))
	case 1:
		return turning(floor, open+r.Intn(2), time)
	case 2:
		return standing(floor, closed)
	}
	if floor == 0 {
		return between(0, 1, time)
	}
	if floor == floors-1 || r.Intn(2) == 0 {
		return between(floor, floor-1, time)
	}
	return between(floor, floor+1, time)
}

// someBuilding is any building.
func someBuilding(r *rand.Rand) api.Building {
	b := plan()
	b.Floors, b.Park = 2+r.Intn(31), 1+r.Intn(30)
	b.Room = 9999
	b.Cars = nil
	for range 1 + r.Intn(8) {
		hold := 1 + r.Intn(12)
		b.Cars = append(b.Cars, api.Car{Deadline: 9, Pulse: 9, Quiet: 9, Step: 1 + r.Intn(9), Travel: 1 + r.Intn(9), Dwell: 1 + r.Intn(hold), Hold: hold, Home: r.Intn(b.Floors)})
	}
	return b
}

// someCar is any state of the control of a car, often with a movement.
func someCar(r *rand.Rand, b api.Building, floor int) api.NewCar {
	s := api.NewCar{Sweep: api.Sweep{Dir: r.Intn(3), Opened: r.Intn(8)}, Calls: someBits(r) & (1<<b.Floors - 1), Shown: r.Intn(3), Idle: r.Intn(40)}
	switch r.Intn(8) {
	case 0:
		return api.NewCar{Fault: true}
	case 1:
		if floor < b.Floors-1 {
			s.Motion = api.Motion{Command: up, Floor: floor, Time: r.Intn(12)}
		}
	case 2:
		if floor > 0 {
			s.Motion = api.Motion{Command: down, Floor: floor, Time: r.Intn(12)}
		}
	case 3, 4:
		s.Door = api.DoorState{Stage: 1 + r.Intn(3), Time: r.Intn(12), Since: r.Intn(14), Nudge: r.Intn(2) == 0, Cycles: r.Intn(3)}
	}
	return s
}

// someBits are few bits, or all.
func someBits(r *rand.Rand) uint32 {
	switch r.Intn(4) {
	case 0:
		return 0
	case 1:
		return 1<<r.Intn(32) | 1<<r.Intn(32)
	case 2:
		return math.MaxUint32
	}
	return r.Uint32() & r.Uint32() & r.Uint32()
}

// P16.4: samples of a tick of a car with its drive.
func TestDriveSamples(t *testing.T) {
	r := rand.New(rand.NewSource(17))
	for range 3000 {
		b := someBuilding(r)
		for range 60 {
			car, place := r.Intn(len(b.Cars)), someRig(r, b.Floors)
			s, press := someCar(r, b, place.Floor), someBits(r)
			hall, block, time := api.Calls{Up: someBits(r), Down: someBits(r)}, r.Intn(2) == 0, someTime(r)
			fb := api.Feedback{Floor: place.Floor, Level: place.Left == 0, Door: place.Door, Block: block}
			want, wantCmd, wantE := newcar.Step(b, car, s, fb, press, hall)
			next, moved, cmd, e := rig.Drive(b, car, s, place, press, hall, time, block)
			if next != want || cmd != wantCmd || e != wantE || e != api.OK || moved != bySentences(b.Floors, place, cmd, time) {
				t.Fatalf("%+v, car %d: Drive of %+v, %+v:\ngot  %+v, %+v, %d and %d\nwant %+v, %d and %d", b, car, s, place, next, moved, cmd, e, want, wantCmd, wantE)
			}
		}
	}
}
