package collective_test

import (
	"math/rand"
	"testing"

	"overlay/api"
	"overlay/collective"
)

// consequences checks what follows for one choice: the car moves only toward a stop, opens only for one, and does nothing
// only if there are none; as long as there are other stops than marked ones, the door has not been opened here yet for the
// direction that it shows.
func consequences(t *testing.T, floors int, w api.Sweep, floor int, s api.Stops) {
	t.Helper()
	here, above, below := false, false, false
	for _, x := range listOf(floors, s) {
		here, above, below = here || x.floor == floor, above || x.floor > floor, below || x.floor < floor
	}
	m := modelOf(floors, w, floor, s)
	c := collective.Choose(floors, w, floor, s)
	fits := false
	switch c.Do {
	case api.CmdNone:
		fits = !here && !above && !below && c == nothing
	case api.CmdUp:
		fits = above && c == goUp && floor < floors-1
	case api.CmdDown:
		fits = below && c == goDown && floor > 0
	case api.CmdOpen:
		fits = here && c.Dir == c.Shown && !m.opened[c.Shown]
	}
	if !fits || !collective.IsSweep(collective.Next(floors, w, floor, s)) {
		t.Errorf("%d floors, %+v at floor %d, %+v: got %+v and %+v", floors, w, floor, s, c, collective.Next(floors, w, floor, s))
	}
}

func TestConsequences(t *testing.T) {
	everywhere(func(floors int, w api.Sweep, floor int, s api.Stops) { consequences(t, floors, w, floor, s) })
	r := rand.New(rand.NewSource(5))
	for floors := 5; floors <= 32; floors++ {
		for range 1000 {
			consequences(t, floors, sweeps()[r.Intn(24)], r.Intn(floors), some(r))
		}
	}
}

// trip is a car on its way to a stop that stays, whatever else comes and goes.
type trip struct {
	floor int
	w     api.Sweep
	step  int // the direction of its last step; none ahead of the first one
	turns int
}

// search goes through all trips to a stop.
type search struct {
	t      *testing.T
	floors int
	to     stop
	sets   []api.Stops   // all that have the stop
	seen   map[trip]bool // false while what follows is looked at
}

// most is how often a car may have turned until it serves a stop.
func (x search) most() int {
	if x.to.dir == none {
		return 1
	}
	return 2
}

// follow looks at all that can follow, and reports whether the stop is always served with few turns at last.
func (x search) follow(from trip) bool {
	if done, ok := x.seen[from]; ok {
		if !done {
			x.t.Errorf("%d floors: a car goes on from %+v to the same without serving %+v", x.floors, from, x.to)
		}
		return done
	}
	x.seen[from] = false
	for _, s := range x.sets {
		next, served := x.after(from, s)
		if served {
			continue
		}
		if next.turns > x.most() {
			x.t.Errorf("%d floors: behind %+v and %+v a car has turned %d times without serving %+v", x.floors, from, s, next.turns, x.to)
			return false
		}
		if !x.follow(next) {
			return false
		}
	}
	x.seen[from] = true
	return true
}

// after is the trip behind a choice, and whether the stop is served then.
func (x search) after(from trip, s api.Stops) (trip, bool) {
	c := collective.Choose(x.floors, from.w, from.floor, s)
	next := from
	next.w = collective.Next(x.floors, from.w, from.floor, s)
	switch c.Do {
	case api.CmdUp:
		next.floor, next.step = from.floor+1, up
	case api.CmdDown:
		next.floor, next.step = from.floor-1, down
	case api.CmdOpen:
		return next, from.floor == x.to.floor && (x.to.dir == none || c.Shown == x.to.dir)
	}
	if from.step != none && next.step != from.step {
		next.turns++
	}
	return next, false
}

// A hall call that stays is shown before the car has turned three times, and a car call is served before it has turned
// twice, wherever the car begins, and whatever the other stops are at each of its choices.
func TestTurns(t *testing.T) {
	for floors := 2; floors <= 4; floors++ {
		full := uint32(1)<<floors - 1
		for _, to := range listOf(floors, stops(full, full, full)) {
			x := search{t: t, floors: floors, to: to, seen: map[trip]bool{}}
			each(floors, func(s api.Stops) {
				if with := wordsOf([]stop{to}); s.Car&with.Car == with.Car && s.Hall.Up&with.Hall.Up == with.Hall.Up && s.Hall.Down&with.Hall.Down == with.Hall.Down {
					x.sets = append(x.sets, s)
				}
			})
			for floor := range floors {
				for _, w := range sweeps() {
					x.follow(trip{floor: floor, w: w})
				}
			}
		}
	}
}

// A run in a building with six floors: what is served leaves the stops behind the choice.
func TestRun(t *testing.T) {
	floor, w, s := 1, api.Sweep{}, stops(1<<1|1<<4, 1<<0|1<<3, 1<<3|1<<5)
	for i, want := range []api.Choice{
		open(down), goDown, open(up), goUp, goUp, goUp, open(up), goUp, open(up), goUp, open(down), goDown, goDown, open(down), nothing, nothing,
	} {
		c := collective.Choose(6, w, floor, s)
		if c != want {
			t.Fatalf("choice %d at floor %d with %+v: got %+v, want %+v", i, floor, s, c, want)
		}
		w = collective.Next(6, w, floor, s)
		switch c.Do {
		case api.CmdUp:
			floor++
		case api.CmdDown:
			floor--
		case api.CmdOpen:
			s.Car &^= 1 << floor
			if c.Shown == up {
				s.Hall.Up &^= 1 << floor
			} else if c.Shown == down {
				s.Hall.Down &^= 1 << floor
			}
		}
	}
	if w != (api.Sweep{}) || s != (api.Stops{}) || floor != 3 {
		t.Errorf("the run ends at floor %d with %+v and %+v", floor, w, s)
	}
}
