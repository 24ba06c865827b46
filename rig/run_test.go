package rig_test

import (
	"math/rand"
	"testing"

	"overlay/api"
	"overlay/building"
	"overlay/newcar"
	"overlay/rig"
)

// The chapter's example.
func TestExample(t *testing.T) {
	s := rig.Step(4, rig.New(2), up, 3)
	if s.Left != 2 || s.Floor != 2 || rig.Report(s, false).Level {
		t.Errorf("from New(2): got %+v", s)
	}
	for range 2 {
		s = rig.Step(4, s, none, 1)
	}
	if s != rig.New(3) || !rig.Report(s, false).Level {
		t.Errorf("two ticks more: got %+v", s)
	}
}

// begun is a movement, and where it ends.
type begun struct {
	from api.Rig
	cmd  int
	to   api.Rig
}

// movements are all that can begin in a building.
func movements(floors int) (l []begun) {
	for floor := range floors {
		l = append(l, begun{standing(floor, closed), toOpen, standing(floor, open)})
		l = append(l, begun{standing(floor, open), toClose, standing(floor, closed)})
		l = append(l, begun{standing(floor, open), toNudge, standing(floor, closed)})
		for _, left := range []int{1, 5, most} { // the door turns back
			l = append(l, begun{turning(floor, closed, left), toOpen, standing(floor, open)})
			l = append(l, begun{turning(floor, open, left), toClose, standing(floor, closed)})
			l = append(l, begun{turning(floor, open, left), toNudge, standing(floor, closed)})
		}
		if floor > 0 {
			l = append(l, begun{standing(floor, closed), down, standing(floor-1, closed)})
			l = append(l, begun{standing(floor-1, closed), up, standing(floor, closed)})
		}
	}
	return l
}

// goesOn tells whether a movement is not broken off by a command: a step never is, a door is by its opposite.
func (m begun) goesOn(cmd int) bool {
	switch {
	case m.cmd == up || m.cmd == down:
		return true
	case m.cmd == toOpen:
		return cmd != toClose && cmd != toNudge
	}
	return cmd != toOpen
}

// A movement that begins in a tick with a time n is over n ticks later, and not before, whatever else is commanded with
// whatever time, as long as it does not break it off.
func TestMovementsTakeTheirTime(t *testing.T) {
	r := rand.New(rand.NewSource(18))
	for _, n := range []int{1, 2, 3, 4, 5, 17, 127, 128, 255, 256, 257, most - 1, most} {
		for _, m := range movements(2 + 3000/(n+300)) {
			s := rig.Step(32, m.from, m.cmd, n)
			for tick := 1; tick <= n+2; tick++ {
				if (s == m.to) != (tick >= n) {
					t.Fatalf("%+v with time %d: %+v is reported %d ticks later", m, n, s, tick)
				}
				cmd := none
				if tick < n {
					cmd = someCommand(r)
				}
				if m.goesOn(cmd) {
					s = rig.Step(32, s, cmd, someTime(r))
				} else {
					s = rig.Step(32, s, m.cmd, someTime(r))
				}
			}
		}
	}
}

// A door that turns back takes the whole time that is given then.
func TestDoorTurnsBack(t *testing.T) {
	s := standing(1, open)
	for _, x := range []struct {
		cmd, time int
		want      api.Rig
	}{
		{toClose, 4, turning(1, closed, 3)}, {none, 9, turning(1, closed, 2)}, {toNudge, 9, turning(1, closed, 1)},
		{toOpen, 3, turning(1, open, 2)}, {toOpen, 9, turning(1, open, 1)}, {toNudge, 2, turning(1, closed, 1)},
		{toClose, 9, standing(1, closed)}, {toClose, 9, standing(1, closed)}, {up, 2, between(1, 2, 1)},
		{toOpen, 9, standing(2, closed)}, {toOpen, 2, turning(2, open, 1)}, {up, 1, standing(2, open)}, {down, 1, standing(2, open)},
	} {
		if s = rig.Step(5, s, x.cmd, x.time); s != x.want {
			t.Errorf("command %d with time %d: got %+v, want %+v", x.cmd, x.time, s, x.want)
		}
	}
}

// All that can happen in small buildings with short times: everything that is a state comes about, and nothing else; the
// car never leaves the building, and never moves with an open door.
func TestAllRuns(t *testing.T) {
	for floors := 2; floors <= 8; floors++ {
		first := rig.New(floors / 2)
		found, work := map[api.Rig]bool{first: true}, []api.Rig{first}
		for len(work) > 0 {
			s := work[0]
			work = work[1:]
			for _, cmd := range commands {
				for time := 1; time <= 5; time++ {
					if next := expectModel(t, floors, s, cmd, time); !found[next] {
						found[next] = true
						work = append(work, next)
					}
				}
			}
		}
		for _, s := range states(floors, 1, 2, 3, 4) {
			if !found[s] {
				t.Errorf("%d floors: no run comes to %+v", floors, s)
			}
			delete(found, s)
		}
		if len(found) > 0 {
			t.Errorf("%d floors: runs come to %+v", floors, found)
		}
	}
}

// ride lets a car of a building do a tick; the call that it shows in it is returned, too. A command to a car that stands
// with a closed door always begins a movement.
func ride(t *testing.T, b api.Building, car int, s api.NewCar, r api.Rig, press uint32, hall api.Calls, time int, block bool) (api.NewCar, api.Rig, api.Calls) {
	t.Helper()
	next, moved, cmd, e := rig.Drive(b, car, s, r, press, hall, time, block)
	if e != api.OK || !newcar.IsState(b, next) || !rig.IsState(b.Floors, moved) {
		t.Fatalf("%+v, car %d: Drive of %+v, %+v: got %+v, %+v, %d and %d", b, car, s, r, next, moved, cmd, e)
	}
	if r == rig.New(r.Floor) && (cmd == none) != (moved == r) {
		t.Fatalf("%+v, car %d: Drive of %+v, %+v: %+v behind command %d", b, car, s, r, moved, cmd)
	}
	return next, moved, newcar.Shows(b, next, rig.Report(r, block))
}

// inTime is a time that a movement may take that begins with a command.
func inTime(r *rand.Rand, c api.Car, cmd int) int {
	longest := c.Travel
	if cmd == up || cmd == down {
		longest = c.Step
	}
	if r.Intn(2) == 0 {
		return longest
	}
	return 1 + r.Intn(longest)
}

// Movements that keep their times: the car is never faulty, and shows a hall call within Service ticks.
func TestDriveServes(t *testing.T) {
	r := rand.New(rand.NewSource(19))
	for range 300 {
		b := someBuilding(r)
		car := r.Intn(len(b.Cars))
		s, place := api.NewCar{}, someRig(r, b.Floors)
		place.Left, place.Ticks = min(place.Left, 1), min(place.Ticks, 1)
		for range 30 {
			call := api.Calls{Up: 1 << r.Intn(b.Floors-1)}
			if r.Intn(2) == 0 {
				call = api.Calls{Down: 2 << r.Intn(b.Floors-1)}
			}
			var shown api.Calls
			for tick := 1; shown != call; tick++ {
				hall, press, block := call, uint32(0), r.Intn(3) == 0
				if r.Intn(9) == 0 {
					hall.Up, hall.Down, press = hall.Up|someBits(r), hall.Down|someBits(r), someBits(r)
				}
				_, _, cmd, _ := rig.Drive(b, car, s, place, press, hall, 1, block)
				s, place, shown = ride(t, b, car, s, place, press, hall, inTime(r, b.Cars[car], cmd), block)
				if s.Fault || tick > building.Service(b, car) {
					t.Fatalf("%+v, car %d: tick %d, %+v has not been shown: %+v, %+v", b, car, tick, call, s, place)
				}
			}
		}
	}
}

// Movements that take too long: the car becomes faulty, its drive ends what goes on, and nothing else begins.
func TestDriveTooLong(t *testing.T) {
	b := plan()
	for car, c := range b.Cars {
		for _, more := range []int{2, 3, 50} {
			late, lateDoor := c.Step+more, c.Travel+more
			s, place := api.NewCar{}, rig.New(1)
			for range late {
				s, place, _ = ride(t, b, car, s, place, 0, api.Calls{Up: 8}, late, false)
			}
			if s != (api.NewCar{Fault: true}) || place != rig.New(2) {
				t.Errorf("car %d, a step of %d ticks: got %+v and %+v", car, late, s, place)
			}
			s, place = api.NewCar{}, rig.New(1)
			for range lateDoor {
				s, place, _ = ride(t, b, car, s, place, 0, api.Calls{Up: 2}, lateDoor, false)
			}
			if s != (api.NewCar{Fault: true}) || place != standing(1, open) {
				t.Errorf("car %d, a door that takes %d ticks: got %+v and %+v", car, lateDoor, s, place)
			}
			for range 100 {
				s, place, _ = ride(t, b, car, s, place, 31, api.Calls{Up: 8}, 1, false)
			}
			if s != (api.NewCar{Fault: true}) || place != standing(1, open) {
				t.Errorf("car %d, a faulty car: got %+v and %+v", car, s, place)
			}
		}
	}
}

// A passenger gets in at floor 3 and goes to floor 0; then the car goes home to floor 2, and stays.
func TestDriveRun(t *testing.T) {
	b := plan()
	s, place := api.NewCar{}, rig.New(2)
	hall, press := api.Calls{Down: 8}, uint32(0)
	var floors []int
	for tick := range 60 {
		var shown api.Calls
		s, place, shown = ride(t, b, 0, s, place, press, hall, 2, false)
		press = 0
		if shown == hall && hall != (api.Calls{}) {
			hall, press = api.Calls{}, 1
		}
		if fb := rig.Report(place, false); fb.Door == open && (len(floors) == 0 || floors[len(floors)-1] != place.Floor) {
			floors = append(floors, place.Floor)
		}
		if tick == 59 && (place != rig.New(2) || !newcar.Still(b, s, rig.Report(place, false))) {
			t.Errorf("in the end: got %+v and %+v", s, place)
		}
	}
	if len(floors) != 2 || floors[0] != 3 || floors[1] != 0 {
		t.Errorf("the door opens at %v", floors)
	}
}
