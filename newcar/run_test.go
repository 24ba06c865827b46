package newcar_test

import (
	"math/rand"
	"testing"

	"overlay/api"
	"overlay/building"
	"overlay/newcar"
)

// told is what a car is told in a tick, and what it does.
type told struct {
	input
	command int
	shows   api.Calls
}

// expectRun lets car 0 of the plan do some ticks, and returns its last state.
func expectRun(t *testing.T, s api.NewCar, l []told) api.NewCar {
	t.Helper()
	b := plan()
	for tick, x := range l {
		next, command, e := newcar.Step(b, 0, s, x.fb, x.press, x.hall)
		if command != x.command || e != api.OK || newcar.Shows(b, next, x.fb) != x.shows {
			t.Errorf("tick %d, %+v: got %+v, %d and %d, shows %+v", tick, s, next, command, e, newcar.Shows(b, next, x.fb))
		}
		s = next
	}
	return s
}

// The chapter's example: the car needs two ticks for each step.
func TestExample(t *testing.T) {
	hall, none := api.Calls{Down: 4}, api.Calls{}
	s := expectRun(t, api.NewCar{}, []told{
		{input{at(0, closed), 0, hall}, up, none}, {input{away(0), 0, hall}, up, none},
		{input{at(1, closed), 0, hall}, up, none}, {input{away(1), 0, hall}, up, none},
		{input{at(2, closed), 0, hall}, toOpen, none},
	})
	if s != (api.NewCar{Sweep: sweep(down, 4), Door: door(opening, 0, 0), Shown: down}) {
		t.Errorf("got %+v", s)
	}
	expectRun(t, s, []told{{input{at(2, moving), 0, hall}, toOpen, none}, {input{at(2, open), 0, hall}, api.CmdNone, hall}})
}

// A car whose power has been off stands at floor 1 with an open door: it closes it first, serves the call of its passenger
// and one on its way, and then goes home to floor 2 behind Park ticks.
func TestRun(t *testing.T) {
	var none, hall api.Calls
	l := []told{{input{at(1, open), 1 << 4, hall}, 0, none}, {input{at(1, open), 0, hall}, 0, none}}
	hall.Up = 1 << 3
	for range 4 {
		l = append(l, told{input{at(1, open), 0, hall}, 0, none})
	}
	l = append(l, told{input{at(1, open), 0, hall}, toClose, none}, told{input{at(1, moving), 0, hall}, toClose, none}, told{input{at(1, closed), 0, hall}, 0, none})
	l = append(l, told{input{at(1, closed), 0, hall}, up, none}, told{input{at(2, closed), 0, hall}, up, none}, told{input{at(3, closed), 0, hall}, toOpen, none})
	l = append(l, told{input{at(3, moving), 0, hall}, toOpen, none}, told{input{at(3, open), 0, hall}, 0, hall}, told{input{at(3, open), 1 << 3, none}, 0, hall})
	for range 4 {
		l = append(l, told{input{at(3, open), 0, none}, 0, hall})
	}
	l = append(l, told{input{at(3, open), 0, none}, toClose, none}, told{input{at(3, closed), 0, none}, 0, none}, told{input{at(3, closed), 0, none}, up, none})
	l = append(l, told{input{at(4, closed), 0, none}, toOpen, none}, told{input{at(4, open), 0, none}, 0, none})
	for range 5 {
		l = append(l, told{input{at(4, open), 0, none}, 0, none})
	}
	l = append(l, told{input{at(4, open), 0, none}, toClose, none}, told{input{at(4, closed), 0, none}, 0, none})
	for range 20 {
		l = append(l, told{input{at(4, closed), 0, none}, 0, none})
	}
	l = append(l, told{input{at(4, closed), 0, none}, down, none}, told{input{away(4), 0, none}, down, none}, told{input{at(3, closed), 0, none}, down, none})
	l = append(l, told{input{at(2, closed), 0, none}, 0, none}, told{input{at(2, closed), 0, none}, 0, none})
	if s := expectRun(t, api.NewCar{}, l); s != (api.NewCar{Idle: 22}) || !newcar.Still(plan(), s, at(2, closed)) {
		t.Errorf("got %+v", s)
	}
}

// R7: a car that is idle for ever, a door that reopens for ever, and one that waits in ticks without feedback.
func TestCountersStay(t *testing.T) {
	b := plan()
	idle, again := api.NewCar{}, api.NewCar{Door: door(shutting, 0, 0)}
	waits := api.NewCar{Door: door(waiting, 0, 1)}
	for tick := 1; tick <= most+3; tick++ {
		idle, _, _ = newcar.Step(b, 0, idle, at(2, closed), 0, api.Calls{})
		waits, _, _ = newcar.Blind(b, 0, waits)
		if idle.Idle != min(tick, most) {
			t.Fatalf("tick %d: got %+v", tick, idle)
		}
	}
	again.Door.Cycles = most - 1
	for range 3 {
		again, _, _ = newcar.Step(b, 0, again, api.Feedback{Level: true, Block: true}, 0, api.Calls{})
		again.Door.Stage = shutting
	}
	if waits.Door != door(waiting, most, most) || again.Door.Cycles != most || !newcar.IsState(b, waits) || !newcar.IsState(b, again) {
		t.Errorf("in the end: got %+v and %+v", waits, again)
	}
}

// drive moves a car; each movement is over in some tick, in time.
type drive struct {
	floor int
	way   int // the direction of the step that is going on
	door  int
	aim   int // where a moving door goes
	ticks int // since the movement has begun
}

// report is the feedback of a drive.
func (d drive) report(block bool) api.Feedback {
	return api.Feedback{Floor: d.floor, Level: d.way == none, Door: d.door, Block: block}
}

// obey is the drive behind a command; over tells whether a movement is over behind this tick, unless it has to be.
func (d drive) obey(c api.Car, command int, over bool) drive {
	aim := map[int]int{toOpen: open, toClose: closed, toNudge: closed}[command]
	switch {
	case d.way != none:
		return d.finish(c.Step, over)
	case command == up || command == down:
		return drive{floor: d.floor, door: d.door, way: command}.finish(c.Step, over)
	case d.door == moving && (aim == d.aim || aim == moving):
		return d.finish(c.Travel, over)
	case aim == moving || aim == d.door:
		return d
	}
	return drive{floor: d.floor, aim: aim}.finish(c.Travel, over)
}

func (d drive) finish(most int, over bool) drive {
	d.ticks++
	if !over && d.ticks < most {
		return d
	}
	if d.way != none {
		return drive{floor: d.floor + []int{0, 1, -1}[d.way], door: d.door}
	}
	return drive{floor: d.floor, door: d.aim}
}

// place is a car with its drive behind a tick; shown is the call that it has shown in it.
type place struct {
	s     api.NewCar
	d     drive
	shown api.Calls
}

// world is a building of one car, in which anything may happen to the car as long as its movements keep their times.
type world struct {
	t     *testing.T
	b     api.Building
	calls []api.Calls // all sets of hall calls
}

func newWorld(t *testing.T, b api.Building) world {
	w := world{t: t, b: b}
	all := building.Hall(b)
	for ups := range all.Up + 1 {
		for downs := range all.Down + 1 {
			if ups&^all.Up == 0 && downs&^all.Down == 0 {
				w.calls = append(w.calls, api.Calls{Up: ups, Down: downs})
			}
		}
	}
	return w
}

// after is the place behind a tick; what follows from the chapter is checked for it.
func (w world) after(p place, press uint32, hall api.Calls, block, over bool) (place, int) {
	fb := p.d.report(block)
	s, command, e := newcar.Step(w.b, 0, p.s, fb, press, hall)
	step := command == up || command == down
	begins := step && s.Motion.Time == 0
	top := p.d.floor == w.b.Floors-1 && command == up || p.d.floor == 0 && command == down
	switch {
	case s.Fault || e != api.OK:
		w.t.Fatalf("%+v: at %+v the car becomes faulty: %+v and %d", w.b, p, s, e)
	case step && p.d.door != closed || begins && (p.d.way != none || top):
		w.t.Fatalf("%+v: at %+v a step begins: %+v and command %d", w.b, p, s, command)
	case command >= toOpen && p.d.way != none:
		w.t.Fatalf("%+v: at %+v the door moves: %+v and command %d", w.b, p, s, command)
	}
	next := place{s: s, d: p.d.obey(w.b.Cars[0], command, over), shown: newcar.Shows(w.b, s, fb)}
	if !begins {
		command = none
	}
	return next.short(w.b), command
}

// short is the same place without counts that make no difference.
func (p place) short(b api.Building) place {
	p.s.Idle = min(p.s.Idle, b.Park)
	p.s.Door.Cycles = 0
	return p
}

// each calls a function for all that can follow a place while some hall calls stay.
func (w world) each(p place, stay api.Calls, look func(next place, step int)) {
	for _, hall := range w.calls {
		if hall.Up&stay.Up != stay.Up || hall.Down&stay.Down != stay.Down {
			continue
		}
		for press := range uint32(1) << w.b.Floors {
			if press&p.s.Calls != 0 { // they make no difference
				continue
			}
			for bits := range 4 {
				next, step := w.after(p, press, hall, bits&1 == 1, bits&2 == 2)
				look(next, step)
			}
		}
	}
}

// places are all to which a car comes from floor 0.
func (w world) places() map[place]bool {
	first := place{d: drive{door: closed}}
	found, work := map[place]bool{first: true}, []place{first}
	for len(work) > 0 {
		p := work[0]
		work = work[1:]
		w.each(p, api.Calls{}, func(next place, _ int) {
			next.shown = api.Calls{}
			if !found[next] {
				found[next] = true
				work = append(work, next)
			}
		})
	}
	return found
}

// trip is a car on its way to a hall call.
type trip struct {
	p    place
	last int // the direction of its last step; none ahead of the first one
}

// longest is how much a car needs at most until it shows a call.
type longest struct {
	ticks, turns int
	known        bool // false while what follows is looked at
}

// search finds how much a car needs for a call from all places.
type search struct {
	world
	call api.Calls
	seen map[trip]longest
}

func (x search) need(from trip) longest {
	if n, ok := x.seen[from]; ok {
		if !n.known {
			x.t.Fatalf("%+v: from %+v a car comes to the same without showing %+v", x.b, from, x.call)
		}
		return n
	}
	x.seen[from] = longest{}
	n := longest{ticks: 1, known: true}
	x.each(from.p, x.call, func(next place, step int) {
		if next.shown == x.call {
			return
		}
		next.shown = api.Calls{}
		to, turns := trip{next, from.last}, 0
		if step != none {
			to.last = step
			if from.last != none && from.last != step {
				turns = 1
			}
		}
		rest := x.need(to)
		n.ticks, n.turns = max(n.ticks, 1+rest.ticks), max(n.turns, turns+rest.turns)
	})
	x.seen[from] = n
	return n
}

// If all movements keep their times, a car never is faulty, and a hall call that stays is shown within Service ticks and
// before the car has turned three times, wherever the car is then and whatever else happens: all of it, in small buildings.
func TestServes(t *testing.T) {
	for _, b := range []api.Building{small(2, 2, 2, 1, 2, 1), small(2, 1, 1, 2, 3, 0), small(2, 3, 1, 1, 1, 1), small(3, 2, 2, 2, 3, 1), small(4, 1, 1, 1, 1, 2)} {
		w := newWorld(t, b)
		starts := w.places()
		for _, call := range w.calls {
			if call.Up&(call.Up-1) != 0 || call.Down&(call.Down-1) != 0 || (call.Up == 0) == (call.Down == 0) {
				continue // not one call
			}
			x := search{w, call, map[trip]longest{}}
			var all longest
			for p := range starts {
				n := x.need(trip{p: p})
				all.ticks, all.turns = max(all.ticks, n.ticks), max(all.turns, n.turns)
			}
			if all.ticks > building.Service(b, 0) || all.turns > 2 {
				t.Errorf("%+v: for %+v a car needs %d ticks and %d turns", b, call, all.ticks, all.turns)
			}
		}
	}
}

// The same in samples of larger buildings: there is always much to do on the other side.
func TestServesSamples(t *testing.T) {
	r := rand.New(rand.NewSource(18))
	for range 300 {
		b := someBuilding(r)
		b.Cars = b.Cars[:1]
		w := world{t: t, b: b}
		p := place{s: api.NewCar{}, d: drive{floor: r.Intn(b.Floors), door: closed}}
		for range 40 {
			call := w.someCall(r)
			n, p2 := w.run(r, p, call)
			if p = p2; n.ticks > building.Service(b, 0) || n.turns > 2 {
				t.Fatalf("%+v: for %+v a car needs %d ticks and %d turns", b, call, n.ticks, n.turns)
			}
		}
	}
}

func (w world) someCall(r *rand.Rand) api.Calls {
	floor := r.Intn(w.b.Floors - 1)
	if r.Intn(2) == 0 {
		return api.Calls{Up: 1 << floor}
	}
	return api.Calls{Down: 2 << floor}
}

// run lets a car go on, now and then with other calls, until it shows a call or has turned too often.
func (w world) run(r *rand.Rand, p place, call api.Calls) (longest, place) {
	var n longest
	last, busy, slow := none, 1+r.Intn(60), r.Intn(4) == 0
	for n.turns <= 2 && n.ticks <= building.Service(w.b, 0) {
		hall, press := call, uint32(0)
		if r.Intn(busy) == 0 {
			press = someBits(r)
			hall.Up, hall.Down = hall.Up|someBits(r), hall.Down|someBits(r)
		}
		next, step := w.after(p, press, hall, r.Intn(3) == 0, !slow && r.Intn(3) == 0)
		if step != none && last != none && step != last {
			n.turns++
		}
		if step != none {
			last = step
		}
		n.ticks++
		if p = next; p.shown == call {
			break
		}
	}
	return n, p
}
