package newcar_test

import (
	"math/rand"
	"testing"

	"overlay/api"
	"overlay/collective"
	doors "overlay/door"
	"overlay/motion"
	"overlay/newcar"
	"overlay/park"
)

// input is what the control is told in a tick.
type input struct {
	fb    api.Feedback
	press uint32
	hall  api.Calls
}

// byRules is P15.2 for arguments without an error, rule by rule.
func byRules(b api.Building, car int, s api.NewCar, x input) (api.NewCar, int) {
	if s.Fault {
		return s, none
	}
	s, command := firstRules(b, car, s, x)
	if doors.Late(b.Cars[car], s.Door) || motion.Late(b.Cars[car], s.Motion) { // 6
		return fault(), none
	}
	return s, command
}

func firstRules(b api.Building, car int, s api.NewCar, x input) (api.NewCar, int) {
	fb, command := x.fb, none
	for floor := range b.Floors { // 1
		if x.press>>floor&1 == 1 && (s.Door.Stage == api.DoorIdle || floor != fb.Floor) {
			s.Calls |= 1 << floor
		}
	}
	if s.Door.Stage == api.DoorIdle && (s.Motion.Command != none || s.Motion.Time != 0 || !fb.Level) { // 2
		had, arrived := s.Motion.Command != none, false
		s.Motion, command, arrived = motion.Step(b.Floors, s.Motion, fb, none)
		levelAgain := !had && fb.Level
		if !arrived && !levelAgain {
			if parks := had && s.Sweep.Dir == none; !parks {
				s.Idle = 0
			}
			return s, command
		}
	}
	if s.Door.Stage == api.DoorIdle && fb.Door != closed { // 3
		s.Door, s.Shown = api.DoorState{Stage: opening}, none
		if s.Sweep.Opened%2 == 0 {
			s.Sweep.Opened++
		}
	}
	if s.Door.Stage != api.DoorIdle { // 4
		s.Door, command = doors.Step(b.Cars[car], s.Door, fb.Door, fb.Block, false)
		if s.Door.Stage == waiting && s.Calls>>fb.Floor&1 == 1 {
			s.Calls -= 1 << fb.Floor
		}
		if s.Door.Stage == api.DoorIdle {
			s.Shown = none
		}
		s.Idle = 0
		return s, command
	}
	return ruleFive(b, car, s, x)
}

func ruleFive(b api.Building, car int, s api.NewCar, x input) (api.NewCar, int) {
	command, stops := none, api.Stops{Car: s.Calls, Hall: x.hall}
	choice := collective.Choose(b.Floors, s.Sweep, x.fb.Floor, stops)
	s.Sweep = collective.Next(b.Floors, s.Sweep, x.fb.Floor, stops)
	if choice.Do == toOpen {
		s.Shown, s.Idle = choice.Shown, 0
		s.Door, command = doors.Step(b.Cars[car], s.Door, x.fb.Door, x.fb.Block, true)
	}
	if choice.Do == up || choice.Do == down {
		s.Idle = 0
		s.Motion, command, _ = motion.Step(b.Floors, s.Motion, x.fb, choice.Do)
	}
	if choice.Do == none {
		if home := park.Move(b, car, s.Idle, x.fb.Floor); home != none {
			s.Motion, command, _ = motion.Step(b.Floors, s.Motion, x.fb, home)
		} else if s.Idle < most {
			s.Idle++
		}
	}
	return s, command
}

// expectModel compares Step and what follows from it for any feedback: a movement begins only at a floor, a step only with
// a closed door and within the building.
func expectModel(t *testing.T, b api.Building, car int, s api.NewCar, x input) {
	t.Helper()
	next, command, e := newcar.Step(b, car, s, x.fb, x.press, x.hall)
	want, wantCommand := byRules(b, car, s, x)
	if next != want || command != wantCommand || e != api.OK {
		t.Fatalf("%+v, car %d: Step of %+v, %+v:\ngot  %+v, %d and %d\nwant %+v, %d", b, car, s, x, next, command, e, want, wantCommand)
	}
	if !newcar.IsState(b, next) {
		t.Fatalf("%+v, car %d: behind Step of %+v, %+v is no state: %+v", b, car, s, x, next)
	}
	begins := command == toOpen && s.Door.Stage == api.DoorIdle
	leaves := next.Motion.Command != none && next.Motion.Time == 0
	top := x.fb.Floor == b.Floors-1 && command == up || x.fb.Floor == 0 && command == down
	if (begins || leaves) && !x.fb.Level || leaves && (x.fb.Door != closed || top || command == none) {
		t.Fatalf("%+v, car %d: Step of %+v, %+v: %+v with command %d begins a movement", b, car, s, x, next, command)
	}
}

// movements are states of doors and steps of a car with few floors and short times.
func movements(floors int) (l []api.NewCar) {
	l = append(l, api.NewCar{})
	for time := range 4 {
		for since := range 5 {
			for stage := opening; stage <= shutting; stage++ {
				l = append(l, api.NewCar{Door: api.DoorState{Stage: stage, Time: time, Since: since, Nudge: since > 2}})
			}
		}
		if time > 0 {
			l = append(l, api.NewCar{Motion: step(none, time, 0)})
		}
		for floor := range floors - 1 {
			l = append(l, api.NewCar{Motion: step(up, time, floor)}, api.NewCar{Motion: step(down, time, floor+1)})
		}
	}
	return l
}

// reports are all that a car with so many floors can report.
func reports(floors int) (l []api.Feedback) {
	for floor := range floors {
		for door := moving; door <= closed; door++ {
			for bits := range 4 {
				l = append(l, api.Feedback{Floor: floor, Level: bits&1 == 1, Door: door, Block: bits&2 == 2})
			}
		}
	}
	return l
}

// small is a building of one car with short times.
func small(floors, step, travel, dwell, hold, home int) api.Building {
	c := api.Car{Deadline: 9, Pulse: 9, Quiet: 9, Slack: 9, Step: step, Travel: travel, Dwell: dwell, Hold: hold, Home: home}
	return api.Building{Floors: floors, Debounce: 9, Room: 9999, Park: 2, Empty: 0.1, Full: 0.8, Over: 1.1, Cars: []api.Car{c}}
}

// everyState calls a function for all states and all that a car of a small building is told, with one of a few sets of
// buttons and hall calls at a time.
func everyState(t *testing.T, b api.Building) {
	sets := []input{{}, {press: 1}, {press: 2}, {press: 1 << b.Floors}, {hall: api.Calls{Up: 1}}, {hall: api.Calls{Down: 2}}, {press: 6, hall: api.Calls{Up: 3, Down: 7}}}
	for _, s := range movements(b.Floors) {
		for opened := range 8 {
			for rest := range 9 {
				s.Sweep, s.Shown = sweep(rest%3, opened), rest/3
				for calls := range uint32(1) << b.Floors {
					s.Calls, s.Idle = calls, int(calls)
					for _, fb := range reports(b.Floors) {
						for _, x := range sets {
							x.fb = fb
							expectModel(t, b, 0, s, x)
						}
					}
				}
			}
		}
	}
}

// P15.2: all states with small counters of small buildings, and all that is reported.
func TestSmallBuildings(t *testing.T) {
	everyState(t, small(2, 2, 1, 1, 3, 1))
	everyState(t, small(2, 1, 2, 2, 2, 0))
}

// someBuilding is any building.
func someBuilding(r *rand.Rand) api.Building {
	b := plan()
	b.Floors, b.Park = 2+r.Intn(31), 1+r.Intn(30)
	b.Cars = nil
	for range 1 + r.Intn(8) {
		hold := 1 + r.Intn(12)
		b.Cars = append(b.Cars, api.Car{Deadline: 9, Pulse: 9, Quiet: 9, Step: 1 + r.Intn(9), Travel: 1 + r.Intn(9), Dwell: 1 + r.Intn(hold), Hold: hold, Home: r.Intn(b.Floors)})
	}
	b.Room = 9999
	return b
}

// someCount is a counter that is often near a time.
func someCount(r *rand.Rand, time int) int {
	switch r.Intn(8) {
	case 0:
		return 0
	case 1:
		return most - r.Intn(3)
	case 2:
		return r.Intn(most)
	}
	return max(0, time-2+r.Intn(5))
}

// someState is any state of a building, often with counters near the times of a car.
func someState(r *rand.Rand, b api.Building, c api.Car) api.NewCar {
	s := api.NewCar{Sweep: sweep(r.Intn(3), r.Intn(8)), Calls: uint32(r.Uint64()) & someBits(r) & (1<<b.Floors - 1), Shown: r.Intn(3), Idle: someCount(r, b.Park)}
	switch r.Intn(4) {
	case 0:
		s.Motion = step(none, someCount(r, c.Step), 0)
	case 1:
		if floor := r.Intn(b.Floors - 1); r.Intn(2) == 0 {
			s.Motion = step(up, someCount(r, c.Step), floor)
		} else {
			s.Motion = step(down, someCount(r, c.Step), floor+1)
		}
	case 2:
		s.Door = api.DoorState{Stage: 1 + r.Intn(3), Since: someCount(r, c.Hold), Nudge: r.Intn(2) == 0, Cycles: r.Intn(3)}
		s.Door.Time = someCount(r, c.Travel)
		if s.Door.Stage == waiting {
			s.Door.Time = someCount(r, c.Dwell)
		}
	}
	return s
}

// someBits are few bits, or all.
func someBits(r *rand.Rand) uint32 {
	switch r.Intn(4) {
	case 0:
		return 0
	case 1:
		return 1<<r.Intn(32) | 1<<r.Intn(32)
	case 2:
		return 0xffffffff
	}
	return uint32(r.Uint64()) & uint32(r.Uint64()) & uint32(r.Uint64())
}

// someInput is anything that a car is told; it often stands at the floor where its step ends.
func someInput(r *rand.Rand, b api.Building, s api.NewCar) input {
	x := input{fb: api.Feedback{Floor: r.Intn(b.Floors), Level: r.Intn(4) > 0, Door: r.Intn(3), Block: r.Intn(3) == 0}}
	if r.Intn(2) == 0 {
		x.fb.Door = closed
	}
	if command := s.Motion.Command; command != none && r.Intn(2) == 0 {
		x.fb.Floor = s.Motion.Floor + []int{0, 1, -1}[command]
	}
	x.press = someBits(r)
	x.hall = api.Calls{Up: someBits(r), Down: someBits(r)}
	return x
}

// P15.2, P15.3, P15.4: samples of states and of what is told, in buildings of all sizes.
func TestSamples(t *testing.T) {
	r := rand.New(rand.NewSource(15))
	for range 4000 {
		b := someBuilding(r)
		for range 100 {
			car := r.Intn(len(b.Cars))
			s := someState(r, b, b.Cars[car])
			x := someInput(r, b, s)
			expectModel(t, b, car, s, x)
			expectBlind(t, b, car, s)
			expectShows(t, b, s, x.fb)
		}
	}
}

// P15.2, P15.4: whole runs in which anything is told, also between floors and with a door that somebody else moves.
func TestRuns(t *testing.T) {
	r := rand.New(rand.NewSource(16))
	for range 2000 {
		b := someBuilding(r)
		car := r.Intn(len(b.Cars))
		s := api.NewCar{}
		for range 60 {
			x := someInput(r, b, s)
			expectModel(t, b, car, s, x)
			s, _, _ = newcar.Step(b, car, s, x.fb, x.press, x.hall)
			expectShows(t, b, s, x.fb)
		}
	}
}

// expectShows compares Shows and Still of a state with their sentences.
func expectShows(t *testing.T, b api.Building, s api.NewCar, fb api.Feedback) {
	t.Helper()
	var want api.Calls
	if s.Door.Stage == waiting && fb.Level && fb.Door == open {
		if s.Shown == up && fb.Floor < b.Floors-1 {
			want.Up = 1 << fb.Floor
		} else if s.Shown == down && fb.Floor > 0 {
			want.Down = 1 << fb.Floor
		}
	}
	still := !s.Fault && s.Door.Stage == api.DoorIdle && s.Motion.Command == none && s.Motion.Time == 0 && s.Calls == 0 && fb.Level && fb.Door == closed
	if newcar.Shows(b, s, fb) != want || newcar.Still(b, s, fb) != still {
		t.Fatalf("%d floors, %+v, %+v: got %+v and %t", b.Floors, s, fb, newcar.Shows(b, s, fb), newcar.Still(b, s, fb))
	}
}

// byBlind is P15.3 for arguments without an error.
func byBlind(b api.Building, car int, s api.NewCar) api.NewCar {
	s.Door, s.Motion = doors.Skip(s.Door), motion.Skip(s.Motion)
	c := b.Cars[car]
	if s.Fault || (s.Door.Stage == opening || s.Door.Stage == shutting) && s.Door.Time > c.Travel || s.Motion.Time > c.Step {
		return fault()
	}
	return s
}

func expectBlind(t *testing.T, b api.Building, car int, s api.NewCar) {
	t.Helper()
	next, command, e := newcar.Blind(b, car, s)
	if next != byBlind(b, car, s) || command != none || e != api.OK || !newcar.IsState(b, next) {
		t.Fatalf("%+v, car %d: Blind of %+v: got %+v, %d and %d", b, car, s, next, command, e)
	}
}
