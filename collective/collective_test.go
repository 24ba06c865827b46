package collective_test

import (
	"fmt"
	"math"
	"math/rand"
	"testing"

	"overlay/api"
	"overlay/collective"
)

func stops(car, up, down uint32) api.Stops {
	return api.Stops{Car: car, Hall: api.Calls{Up: up, Down: down}}
}

func sweep(dir, opened int) api.Sweep {
	return api.Sweep{Dir: dir, Opened: opened}
}

func open(shown int) api.Choice {
	return api.Choice{Do: api.CmdOpen, Dir: shown, Shown: shown}
}

// The choices of a car that does not open its door.
var (
	nothing = api.Choice{Do: api.CmdNone, Dir: api.DirNone}
	goUp    = api.Choice{Do: api.CmdUp, Dir: api.DirUp}
	goDown  = api.Choice{Do: api.CmdDown, Dir: api.DirDown}
)

const (
	none, up, down             = api.DirNone, api.DirUp, api.DirDown
	openedNone, openedUp       = 1, 2
	openedDown, openedAnything = 4, 7
)

// sweeps are all sweeps that there are.
func sweeps() []api.Sweep {
	var l []api.Sweep
	for dir := none; dir <= down; dir++ {
		for opened := range 8 {
			l = append(l, sweep(dir, opened))
		}
	}
	return l
}

// noSweeps have a Dir or an Opened, or both, that none has; many of them end in the bits of one that some have.
func noSweeps() []api.Sweep {
	var l []api.Sweep
	noDirs := []int{3, 4, -1, -2, 5, 256, 257, 1 << 32, 1<<32 + 1, math.MaxInt, math.MinInt, math.MinInt + 2}
	noOpened := []int{8, 9, 15, -1, -2, -8, 256, 1 << 32, 1<<32 + 7, math.MaxInt, math.MinInt, math.MinInt + 7}
	for _, dir := range noDirs {
		for opened := range 8 {
			l = append(l, sweep(dir, opened))
		}
		for _, opened := range noOpened {
			l = append(l, sweep(dir, opened))
		}
	}
	for _, opened := range noOpened {
		for dir := none; dir <= down; dir++ {
			l = append(l, sweep(dir, opened))
		}
	}
	return l
}

// noFloors are numbers of floors that no building has.
func noFloors() []int {
	return []int{1, 0, -1, -2, -31, -32, 33, 34, 64, 66, 256 + 4, 1<<32 + 4, math.MaxInt, math.MaxInt32, math.MinInt, math.MinInt + 4}
}

// outside are numbers that are no floor of a building.
func outside(floors int) []int {
	return []int{-1, -2, -floors, -32, floors, floors + 1, 32, 33, 64, 1 << 32, 1<<32 + 1, math.MaxInt, math.MinInt, math.MinInt + 1}
}

// some are stops of a building, and of floors and directions that it does not have.
func some(r *rand.Rand) api.Stops {
	word := func() uint32 {
		w := r.Uint32()
		for range r.Intn(6) { // from half of the bits to nearly none
			w &= r.Uint32()
		}
		return w
	}
	return stops(word(), word(), word())
}

func TestIsSweep(t *testing.T) {
	for _, w := range sweeps() {
		if !collective.IsSweep(w) {
			t.Errorf("P11.1: IsSweep(%+v): got false", w)
		}
	}
	for _, w := range noSweeps() {
		if collective.IsSweep(w) {
			t.Errorf("P11.1: IsSweep(%+v): got true", w)
		}
	}
	if len(sweeps()) != 24 {
		t.Errorf("there are %d sweeps", len(sweeps()))
	}
}

// expect compares all that a car at a floor is told.
func expect(t *testing.T, floors int, w api.Sweep, floor int, s, spent api.Stops, choice api.Choice, next api.Sweep) {
	t.Helper()
	what := func() string {
		return fmt.Sprintf("%d floors, %+v at floor %d, car %#b, up %#b, down %#b", floors, w, floor, s.Car, s.Hall.Up, s.Hall.Down)
	}
	if got := collective.Spent(floors, w, floor, s); got != spent {
		t.Errorf("P11.1: Spent, %s: got %+v, want %+v", what(), got, spent)
	}
	if got := collective.Choose(floors, w, floor, s); got != choice {
		t.Errorf("P11.2: Choose, %s: got %+v, want %+v", what(), got, choice)
	}
	if got := collective.Next(floors, w, floor, s); got != next {
		t.Errorf("P11.3: Next, %s: got %+v, want %+v", what(), got, next)
	}
}

// rule is an example of a rule: a car at floor 2 of five floors that has not opened its door there.
type rule struct {
	dir           int
	car, up, down uint32
	want          api.Choice
}

func expectRules(t *testing.T, l []rule) {
	t.Helper()
	for _, x := range l {
		next := sweep(x.want.Dir, 0)
		if x.want.Do == api.CmdOpen {
			next.Opened = map[int]int{none: openedNone, up: openedUp, down: openedDown}[x.want.Shown]
		}
		expect(t, 5, sweep(x.dir, 0), 2, stops(x.car, x.up, x.down), api.Stops{}, x.want, next)
	}
}

// P11.2 and P11.3: rules 1 to 3, and those behind rule 3.
func TestSweepingUp(t *testing.T) {
	expectRules(t, []rule{
		// rule 1: for a call up
		{up, 0, 4, 0, open(up)}, {up, 0, 4, 4, open(up)}, {up, 4, 4, 4, open(up)}, {up, 3, 5, 3, open(up)}, {up, 31, 31, 31, open(up)},
		// rule 1: for a car call, with a stop above
		{up, 4 + 8, 0, 0, open(up)}, {up, 4 + 16, 0, 0, open(up)}, {up, 4, 8, 0, open(up)}, {up, 4, 0, 8, open(up)}, {up, 4, 0, 16, open(up)}, {up, 5 + 8, 0, 4, open(up)},
		// rule 1: for a car call, with a call down or a stop below
		{up, 4, 0, 4, open(down)}, {up, 5, 0, 0, open(down)}, {up, 6, 0, 0, open(down)}, {up, 4, 1, 0, open(down)}, {up, 4, 0, 2, open(down)},
		// rule 1: for a car call only
		{up, 4, 0, 0, open(none)},
		// rule 2
		{up, 8, 0, 0, goUp}, {up, 16, 0, 0, goUp}, {up, 0, 8, 0, goUp}, {up, 0, 0, 8, goUp}, {up, 0, 0, 16, goUp}, {up, 0, 0, 4 + 16, goUp}, {up, 3 + 16, 3, 2, goUp},
		// rule 4 behind rule 3
		{up, 0, 0, 4, open(down)}, {up, 3, 3, 4 + 2, open(down)},
		// rule 5 behind rule 3
		{up, 1, 0, 0, goDown}, {up, 2, 0, 0, goDown}, {up, 0, 1, 0, goDown}, {up, 0, 0, 2, goDown},
		// rule 6 behind rule 3
		{up, 0, 0, 0, nothing},
	})
}

// P11.2 and P11.3: rules 4 to 6.
func TestSweepingDown(t *testing.T) {
	expectRules(t, []rule{
		// rule 4: for a call down
		{down, 0, 0, 4, open(down)}, {down, 0, 4, 4, open(down)}, {down, 4, 4, 4, open(down)}, {down, 24, 8, 4 + 16, open(down)}, {down, 31, 31, 31, open(down)},
		// rule 4: for a car call, with a stop below
		{down, 4 + 1, 0, 0, open(down)}, {down, 4 + 2, 0, 0, open(down)}, {down, 4, 1, 0, open(down)}, {down, 4, 2, 0, open(down)}, {down, 4, 0, 2, open(down)}, {down, 5 + 16, 4, 0, open(down)},
		// rule 4: for a car call, with a call up or a stop above
		{down, 4, 4, 0, open(up)}, {down, 4 + 8, 0, 0, open(up)}, {down, 4 + 16, 0, 0, open(up)}, {down, 4, 8, 0, open(up)}, {down, 4, 0, 16, open(up)},
		// rule 4: for a car call only
		{down, 4, 0, 0, open(none)},
		// rule 5
		{down, 1, 0, 0, goDown}, {down, 2, 0, 0, goDown}, {down, 0, 1, 0, goDown}, {down, 0, 2, 0, goDown}, {down, 0, 0, 2, goDown}, {down, 0, 4 + 1, 0, goDown}, {down, 1 + 24, 8, 24, goDown},
		// rule 6
		{down, 0, 4, 0, open(up)}, {down, 24, 4 + 8, 24, open(up)}, {down, 8, 0, 0, goUp}, {down, 0, 8, 0, goUp}, {down, 0, 0, 8, goUp}, {down, 0, 0, 16, goUp}, {down, 0, 0, 0, nothing},
	})
}

// P11.2 and P11.3: rule 7.
func TestWithoutDirection(t *testing.T) {
	expectRules(t, []rule{
		// for a call up
		{none, 0, 4, 0, open(up)}, {none, 4, 4, 4, open(up)}, {none, 3, 4, 4, open(up)}, {none, 31, 31, 31, open(up)},
		// for a call down
		{none, 0, 0, 4, open(down)}, {none, 4, 0, 4, open(down)}, {none, 24, 8, 4 + 16, open(down)},
		// for a car call
		{none, 4, 0, 0, open(none)}, {none, 4 + 8, 0, 0, open(up)}, {none, 4 + 2, 0, 0, open(down)}, {none, 4 + 16, 2, 0, open(down)}, {none, 4 + 8, 1, 0, open(up)},
		{none, 4 + 8 + 2, 0, 0, open(up)}, {none, 4 + 16 + 1, 0, 0, open(up)}, {none, 4, 2, 8, open(up)}, {none, 4, 1, 16, open(up)},
		// in the nearer direction
		{none, 8, 0, 0, goUp}, {none, 0, 0, 16, goUp}, {none, 2, 0, 0, goDown}, {none, 0, 1, 0, goDown}, {none, 8, 2, 0, goUp}, {none, 16, 0, 2, goDown}, {none, 0, 8, 0, goUp},
		{none, 16 + 1, 0, 0, goUp}, {none, 16 + 3, 0, 0, goDown}, {none, 24 + 1, 0, 0, goUp}, {none, 0, 1, 8, goUp},
		{none, 0, 0, 0, nothing},
	})
}

// P11.2: one stop above and one below, at all floors of the highest building.
func TestNearer(t *testing.T) {
	kinds := []func(floor int) api.Stops{
		func(floor int) api.Stops { return stops(1<<floor, 0, 0) },
		func(floor int) api.Stops { return stops(0, 1<<floor, 0) },
		func(floor int) api.Stops { return stops(0, 0, 1<<floor) },
	}
	for floor := 2; floor < 30; floor++ {
		for lower := 1; lower < floor; lower++ {
			for upper := floor + 1; upper < 31; upper++ {
				dir, moves := up, goUp
				if floor-lower < upper-floor {
					dir, moves = down, goDown
				}
				a, b := kinds[(floor+lower)%3](lower), kinds[(lower+upper)%3](upper)
				both := stops(a.Car|b.Car, a.Hall.Up|b.Hall.Up, a.Hall.Down|b.Hall.Down)
				expect(t, 32, sweep(none, 0), floor, both, api.Stops{}, moves, sweep(dir, 0))
				both.Car |= 1 << floor
				expect(t, 32, sweep(none, 0), floor, both, api.Stops{}, open(dir), sweep(dir, 2*dir))
			}
		}
	}
}

// The chapter's examples.
func TestExamples(t *testing.T) {
	expect(t, 8, sweep(up, 0), 2, stops(4, 16, 0), api.Stops{}, open(up), sweep(up, openedUp))
	expect(t, 8, sweep(up, 0), 2, stops(4, 0, 4), api.Stops{}, open(down), sweep(down, openedDown))
	expect(t, 8, sweep(up, 0), 2, stops(0, 0, 4), api.Stops{}, open(down), sweep(down, openedDown))
}

// P11.1: which stops at floor 2 are marked by which bits of Opened, with another stop, at floor 4, that makes them spent.
func TestSpent(t *testing.T) {
	for _, x := range []struct {
		opened int
		spent  api.Stops
		choice api.Choice
		next   api.Sweep
	}{
		{0, stops(0, 0, 0), open(up), sweep(up, openedUp)},
		{openedNone, stops(4, 0, 0), open(up), sweep(up, openedNone|openedUp)},
		{openedUp, stops(4, 4, 0), goUp, sweep(up, 0)},
		{openedNone | openedUp, stops(4, 4, 0), goUp, sweep(up, 0)},
		{openedDown, stops(4, 0, 4), open(up), sweep(up, openedDown|openedUp)},
		{openedNone | openedDown, stops(4, 0, 4), open(up), sweep(up, openedAnything)},
		{openedUp | openedDown, stops(4, 4, 4), goUp, sweep(up, 0)},
		{openedAnything, stops(4, 4, 4), goUp, sweep(up, 0)},
	} {
		expect(t, 5, sweep(up, x.opened), 2, stops(4+16, 4, 4), x.spent, x.choice, x.next)
	}
	// a call that is not spent at the floor is another stop, too
	expect(t, 5, sweep(up, openedUp), 2, stops(4, 4, 4), stops(4, 4, 0), open(down), sweep(down, openedUp|openedDown))
	expect(t, 5, sweep(none, openedNone), 2, stops(4, 0, 4), stops(4, 0, 0), open(down), sweep(down, openedNone|openedDown))
	expect(t, 5, sweep(down, openedDown), 2, stops(4, 4, 4), stops(4, 0, 4), open(up), sweep(up, openedDown|openedUp))
	// the same stops at other floors are not marked
	expect(t, 5, sweep(down, openedAnything), 2, stops(2, 2, 2), api.Stops{}, goDown, sweep(down, 0))
	expect(t, 5, sweep(up, openedAnything), 2, stops(8, 8, 8), api.Stops{}, goUp, sweep(up, 0))
	expect(t, 32, sweep(up, openedAnything), 31, stops(1<<31+1, 0, 1<<31), stops(1<<31, 0, 1<<31), goDown, sweep(down, 0))
	expect(t, 32, sweep(down, openedAnything), 0, stops(1<<31+1, 1, 0), stops(1, 1, 0), goUp, sweep(up, 0))
}

// P11.1 to P11.3: if there are only marked stops, Opened counts as 0 and none is spent.
func TestOnlyMarked(t *testing.T) {
	for _, w := range sweeps() {
		expect(t, 5, w, 2, api.Stops{}, api.Stops{}, nothing, api.Sweep{})
		expect(t, 5, w, 2, stops(4, 0, 0), api.Stops{}, open(none), sweep(none, openedNone))
	}
	for _, opened := range []int{openedUp, openedUp | openedNone, openedUp | openedDown, openedAnything} {
		for dir := none; dir <= down; dir++ {
			expect(t, 5, sweep(dir, opened), 2, stops(0, 4, 0), api.Stops{}, open(up), sweep(up, openedUp))
			expect(t, 5, sweep(dir, opened), 2, stops(4, 4, 0), api.Stops{}, open(up), sweep(up, openedUp))
		}
	}
	for _, opened := range []int{openedDown, openedDown | openedNone, openedDown | openedUp, openedAnything} {
		for dir := none; dir <= down; dir++ {
			expect(t, 5, sweep(dir, opened), 2, stops(0, 0, 4), api.Stops{}, open(down), sweep(down, openedDown))
			expect(t, 5, sweep(dir, opened), 2, stops(4, 0, 4), api.Stops{}, open(down), sweep(down, openedDown))
		}
	}
	expect(t, 5, sweep(down, openedAnything), 2, stops(4, 4, 4), api.Stops{}, open(down), sweep(down, openedDown))
	expect(t, 5, sweep(none, openedAnything), 2, stops(4, 4, 4), api.Stops{}, open(up), sweep(up, openedUp))
}

// P11.2: at both ends of the lowest and of the highest building.
func TestEnds(t *testing.T) {
	expect(t, 2, sweep(none, 0), 0, stops(0, 1, 2), api.Stops{}, open(up), sweep(up, openedUp))
	expect(t, 2, sweep(none, 0), 0, stops(2, 0, 0), api.Stops{}, goUp, sweep(up, 0))
	expect(t, 2, sweep(down, 0), 0, stops(0, 0, 2), api.Stops{}, goUp, sweep(up, 0))
	expect(t, 2, sweep(up, 0), 1, stops(0, 1, 0), api.Stops{}, goDown, sweep(down, 0))
	expect(t, 2, sweep(up, 0), 1, stops(2, 0, 0), api.Stops{}, open(none), sweep(none, openedNone))
	const top = 1 << 31
	expect(t, 32, sweep(none, 0), 31, stops(top, top, 0), api.Stops{}, open(none), sweep(none, openedNone))
	expect(t, 32, sweep(none, 0), 31, stops(0, 0, top), api.Stops{}, open(down), sweep(down, openedDown))
	expect(t, 32, sweep(up, 0), 31, stops(1, 0, 0), api.Stops{}, goDown, sweep(down, 0))
	expect(t, 32, sweep(none, 0), 31, stops(1, 0, 0), api.Stops{}, goDown, sweep(down, 0))
	expect(t, 32, sweep(none, 0), 0, stops(top, 0, 0), api.Stops{}, goUp, sweep(up, 0))
	expect(t, 32, sweep(down, 0), 0, stops(0, 0, top), api.Stops{}, goUp, sweep(up, 0))
	expect(t, 32, sweep(up, 0), 30, stops(0, 0, top), api.Stops{}, goUp, sweep(up, 0))
	expect(t, 32, sweep(down, 0), 1, stops(0, 1, 0), api.Stops{}, goDown, sweep(down, 0))
}

// Stops that do not count change nothing, and are not spent, also if the car stands at their floor.
func TestStopsThatDoNotCount(t *testing.T) {
	r := rand.New(rand.NewSource(2))
	for floors := 2; floors <= 32; floors++ {
		missing := ^uint32(0) << floors // the floors above the last one
		last := uint32(1) << (floors - 1)
		for _, w := range sweeps() {
			for _, floor := range []int{0, floors - 1, floors / 2} {
				s := some(r)
				s.Car, s.Hall.Up, s.Hall.Down = s.Car&^missing, s.Hall.Up&^(missing|last), s.Hall.Down&^(missing|1)
				for _, s := range []api.Stops{{}, s} {
					more := stops(s.Car|missing, s.Hall.Up|missing|last, s.Hall.Down|missing|1)
					spent, choice, next := collective.Spent(floors, w, floor, s), collective.Choose(floors, w, floor, s), collective.Next(floors, w, floor, s)
					expect(t, floors, w, floor, more, spent, choice, next)
				}
				expect(t, floors, w, floor, stops(missing, missing|last, missing|1), api.Stops{}, nothing, api.Sweep{})
			}
		}
	}
}

// P11.1 to P11.3: without proper arguments nothing is spent and nothing is done.
func TestArguments(t *testing.T) {
	refused := func(floors int, w api.Sweep, floor int) {
		t.Helper()
		for _, s := range []api.Stops{{}, stops(math.MaxUint32, math.MaxUint32, math.MaxUint32), stops(5, 2, 6)} {
			expect(t, floors, w, floor, s, api.Stops{}, api.Choice{}, api.Sweep{})
		}
	}
	for _, w := range sweeps() {
		for _, floors := range noFloors() {
			for _, floor := range []int{0, 1, 31, floors - 1, floors, -1} {
				refused(floors, w, floor)
			}
		}
		for _, floors := range []int{2, 3, 8, 31, 32} {
			for _, floor := range outside(floors) {
				refused(floors, w, floor)
			}
		}
	}
	for _, w := range noSweeps() {
		for _, floors := range []int{2, 5, 32, 1, 33} {
			for _, floor := range []int{0, 1, floors - 1, floors, -1} {
				refused(floors, w, floor)
			}
		}
	}
}

// R5: the same arguments give the same results, whatever has been called in between.
func TestSameResults(t *testing.T) {
	results := func() string {
		s := stops(0b01101, 0b00110, 0b10100)
		var l []any
		for _, w := range sweeps() {
			l = append(l, collective.Spent(5, w, 2, s), collective.Choose(5, w, 2, s), collective.Next(5, w, 2, s), collective.IsSweep(w))
		}
		return fmt.Sprint(l)
	}
	first := results()
	r := rand.New(rand.NewSource(3))
	for range 1000 {
		collective.Next(r.Intn(40), sweep(r.Intn(4), r.Intn(9)), r.Intn(40), some(r))
	}
	if second := results(); first != second {
		t.Errorf("the results changed from %s to %s", first, second)
	}
}
