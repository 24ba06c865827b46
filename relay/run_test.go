package relay_test

import (
	"math/rand"
	"testing"

	"overlay/api"
	"overlay/building"
	"overlay/calls"
	"overlay/indicator"
	"overlay/relay"
)

// shows is the call that the contacts of a car show.
func shows(b api.Building, s api.Relay) api.Calls {
	return indicator.Shows(b.Floors, indicator.Decode(b.Floors, relay.Contacts(s)))
}

// The chapter's example.
func TestExample(t *testing.T) {
	b := plan()
	call := api.Calls{Down: 2}
	s := relay.Step(b, 0, relay.New(0), call, 0)
	for tick := range 4 {
		if want := holding(at(move, 0, up, 0, 4-tick), 0, 2, 0); s != want || relay.Contacts(s) != (api.Contacts{Up: true, Closed: true}) {
			t.Errorf("%d ticks behind the injection: got %+v, want %+v", tick, s, want)
		}
		s = relay.Step(b, 0, s, api.Calls{}, 0)
	}
	if want := holding(at(opens, 1, down, 4, 2), 0, 2, 0); s != want || relay.Contacts(s) != (api.Contacts{Floors: 2, Down: true}) {
		t.Errorf("four ticks later: got %+v, want %+v", s, want)
	}
}

// A passenger at floor 1 calls the car up and wants to go to floor 3, one at floor 2 comes while the car passes below, and
// one at floor 1 comes too late: the car comes back.
func TestRun(t *testing.T) {
	b := plan()
	inject := map[int]api.Calls{0: {Up: 2}, 9: {Up: 2}, 12: {Up: 2}, 16: {Up: 4}}
	press := map[int]uint32{8: 2 + 8}
	s := relay.New(0)
	var got []api.Relay
	for tick := range 200 {
		last := s
		s = relay.Step(b, 0, s, inject[tick], press[tick])
		if s.Stage != last.Stage || s.Floor != last.Floor {
			got = append(got, s)
		}
	}
	want := []api.Relay{
		holding(at(move, 0, up, 0, 4), 2, 0, 0), holding(at(opens, 1, up, 2, 2), 2, 0, 0), at(waits, 1, up, 2, 6), holding(at(closes, 1, up, 2, 2), 2, 0, 8),
		holding(at(move, 1, up, 0, 4), 2, 0, 8), holding(at(opens, 2, up, 2, 2), 2+4, 0, 8), holding(at(waits, 2, up, 2, 6), 2, 0, 8), holding(at(closes, 2, up, 2, 2), 2, 0, 8),
		holding(at(move, 2, up, 0, 4), 2, 0, 8), holding(at(opens, 3, down, 4, 2), 2, 0, 8), holding(at(waits, 3, down, 4, 6), 2, 0, 0), holding(at(closes, 3, down, 4, 2), 2, 0, 0),
		holding(at(move, 3, down, 0, 4), 2, 0, 0), holding(at(move, 2, down, 0, 4), 2, 0, 0), holding(at(opens, 1, up, 2, 2), 2, 0, 0), at(waits, 1, up, 2, 6), at(closes, 1, up, 2, 2), at(idle, 1, none, 0, 0),
	}
	for i := range max(len(got), len(want)) {
		if i >= len(got) || i >= len(want) || got[i] != want[i] {
			t.Fatalf("change %d:\ngot  %+v\nwant %+v", i, got[min(i, len(got)):], want[min(i, len(want)):])
		}
	}
}

// world is a building of one car, to which anything may happen.
type world struct {
	t     *testing.T
	b     api.Building
	calls []api.Calls // all sets of hall calls
}

func newWorld(t *testing.T, b api.Building) world {
	w := world{t: t, b: b}
	all := building.Hall(b)
	for ups := range all.Up + 1 {
		for downs := range all.Down + 1 {
			if ups&^all.Up == 0 && downs&^all.Down == 0 {
				w.calls = append(w.calls, api.Calls{Up: ups, Down: downs})
			}
		}
	}
	return w
}

// small is a building with one car.
func small(floors, step, travel, dwell int) api.Building {
	b := plan()
	b.Floors, b.Cars = floors, b.Cars[:1]
	c := &b.Cars[0]
	c.Step, c.Travel, c.Dwell, c.Hold, c.Home = step, travel, dwell, dwell, 0
	return b
}

// each calls a function for all that can follow a state. What is held already makes no difference.
func (w world) each(s api.Relay, look func(next api.Relay)) {
	for _, inject := range w.calls {
		if calls.Both(inject, s.Calls) != (api.Calls{}) {
			continue
		}
		for press := range uint32(1) << w.b.Floors {
			if press&s.Car != 0 {
				continue
			}
			next := relay.Step(w.b, 0, s, inject, press)
			expectSound(w.t, w.b, s, inject, press, next)
			look(next)
		}
	}
}

// states are all to which a car comes from its floors.
func (w world) states() map[api.Relay]bool {
	found := map[api.Relay]bool{}
	var work []api.Relay
	find := func(s api.Relay) {
		if !found[s] {
			found[s] = true
			work = append(work, s)
		}
	}
	for floor := range w.b.Floors {
		find(relay.New(floor))
	}
	for len(work) > 0 {
		s := work[0]
		work = work[1:]
		w.each(s, find)
	}
	return found
}

// search finds how many ticks a car needs at most until it shows a call that it holds.
type search struct {
	world
	call api.Calls
	seen map[api.Relay]int // 0 while what follows is looked at
}

func (x search) need(s api.Relay) int {
	if n, ok := x.seen[s]; ok {
		if n == 0 {
			x.t.Fatalf("%+v: from %+v a car comes to the same without showing %+v", x.b, s, x.call)
		}
		return n
	}
	x.seen[s] = 0
	n := 1
	x.each(s, func(next api.Relay) { n = max(n, 1+x.rest(next)) })
	x.seen[s] = n
	return n
}

// rest is how many ticks it needs behind a state; none if that shows the call.
func (x search) rest(s api.Relay) int {
	if shows(x.b, s) == x.call {
		return 0
	}
	return x.need(s)
}

// A call that is injected is shown within Promise ticks, whatever the car does then and whatever else happens: all of it,
// in small buildings. The tick of the injection counts.
func TestShownWithinPromise(t *testing.T) {
	for _, b := range []api.Building{small(2, 1, 1, 1), small(2, 4, 3, 2), small(2, 2, 1, 5), small(3, 1, 1, 1), small(3, 2, 1, 3), small(3, 2, 3, 2)} {
		w := newWorld(t, b)
		starts := w.states()
		for _, e := range calls.List(building.Hall(b)) {
			x := search{w, calls.One(e.Floor, e.Dir), map[api.Relay]int{}}
			longest := 0
			for s := range starts {
				next := relay.Step(b, 0, s, x.call, 0)
				longest = max(longest, 1+x.rest(next))
				if calls.Both(s.Calls, x.call) == x.call { // all that can happen behind the injection
					longest = max(longest, 1+x.need(s))
				}
			}
			if longest < b.Cars[0].Travel || longest > relay.Promise(b, 0) {
				t.Errorf("%+v: for %+v a car needs %d ticks", b, x.call, longest)
			}
		}
	}
}

// The same in samples of larger buildings: there is always much to do on the other side.
func TestShownSamples(t *testing.T) {
	r := rand.New(rand.NewSource(19))
	for range 150 {
		b := someBuilding(r)
		for car := range b.Cars { // what long times change is seen in short ones, too
			c := &b.Cars[car]
			c.Step, c.Travel, c.Dwell = min(c.Step, 12), min(c.Travel, 12), min(c.Dwell, 12)
		}
		car, s := r.Intn(len(b.Cars)), relay.New(r.Intn(b.Floors))
		for range 30 {
			list := calls.List(building.Hall(b))
			e := list[r.Intn(len(list))]
			s = expectShown(t, r, b, car, s, calls.One(e.Floor, e.Dir))
		}
	}
}

// expectShown injects a call, and lets a car go on until it shows it, now and then with other calls.
func expectShown(t *testing.T, r *rand.Rand, b api.Building, car int, s api.Relay, call api.Calls) api.Relay {
	t.Helper()
	inject, press, busy := call, uint32(0), 1+r.Intn(60)
	for range relay.Promise(b, car) {
		next := relay.Step(b, car, s, inject, press)
		expectSound(t, b, s, inject, press, next)
		if s = next; shows(b, s) == call {
			return s
		}
		inject, press = api.Calls{}, 0
		if r.Intn(busy) == 0 {
			inject, press = api.Calls{Up: someBits(r), Down: someBits(r)}, someBits(r)
		}
	}
	t.Fatalf("%+v, car %d: %+v has not been shown: %+v", b, car, call, s)
	return s
}
