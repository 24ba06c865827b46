package calls_test

import (
	"fmt"
	"math"
	"math/rand"
	"slices"
	"testing"

	"overlay/api"
	"overlay/calls"
)

const allFloors = math.MaxUint32

// set makes a set of two words.
func set(up, down uint32) api.Calls {
	return api.Calls{Up: up, Down: down}
}

// samples are sets of all kinds: none, all, single calls, their complements, all up to a floor, and others, dense and sparse.
func samples() []api.Calls {
	l := []api.Calls{{}, set(allFloors, allFloors), set(allFloors, 0), set(0, allFloors), set(5, 4), set(0xAAAAAAAA, 0x55555555)}
	for f := range 32 {
		bit := uint32(1) << f
		l = append(l, set(bit, 0), set(0, bit), set(bit, bit), set(^bit, allFloors), set(allFloors, ^bit), set(bit-1, -bit))
	}
	r := rand.New(rand.NewSource(1))
	for range 60 {
		l = append(l, set(r.Uint32(), r.Uint32()), set(r.Uint32()&r.Uint32()&r.Uint32(), r.Uint32()&r.Uint32()&r.Uint32()))
	}
	return l
}

// noFloors are numbers that are no floor; many of them end in the bits of a floor, or are one below or above an end.
func noFloors() []int {
	return []int{
		-1, -2, -31, -32, -33, -64, 32, 33, 34, 63, 64, 65, 66, 255, 256, 257, 1<<16 + 1, math.MaxInt32, math.MinInt32,
		1 << 32, 1<<32 + 1, 1<<32 + 31, math.MaxInt - 1, math.MaxInt, math.MinInt, math.MinInt + 1, math.MinInt + 31, math.MinInt + 32,
	}
}

// noDirs are numbers that are neither DirUp nor DirDown.
func noDirs() []int {
	return []int{
		api.DirNone, api.DirBad, -1, -2, -3, 4, 5, 6, 257, 258, 1<<16 + 1, 1<<16 + 2, 1<<32 + 1, 1<<32 + 2,
		math.MaxInt, math.MinInt, math.MinInt + 1, math.MinInt + 2,
	}
}

// call is a hall call, and a model is the second way to a set: it says of each call whether it is in.
type call struct{ floor, dir int }

type model map[call]bool

func modelOf(c api.Calls) model {
	m := model{}
	for f := range 32 {
		m[call{f, api.DirUp}] = c.Up>>f%2 == 1
		m[call{f, api.DirDown}] = c.Down>>f%2 == 1
	}
	return m
}

// keep is the set of the calls of which in says that they are in.
func keep(in func(call) bool) api.Calls {
	var c api.Calls
	for f := range 32 {
		if in(call{f, api.DirUp}) {
			c.Up += 1 << f
		}
		if in(call{f, api.DirDown}) {
			c.Down += 1 << f
		}
	}
	return c
}

func expectSet(t *testing.T, what string, got, want api.Calls) {
	t.Helper()
	if got != want {
		t.Errorf("%s: got %#x up and %#x down, want %#x and %#x", what, got.Up, got.Down, want.Up, want.Down)
	}
}

// P7.1: each floor with each direction, in sets of all kinds.
func TestHas(t *testing.T) {
	for _, c := range samples() {
		for x, want := range modelOf(c) {
			if got := calls.Has(c, x.floor, x.dir); got != want {
				t.Errorf("Has(%+v, %d, %d): got %v, want %v", c, x.floor, x.dir, got, want)
			}
		}
	}
}

// P7.1: no set has a call with another floor or direction, also not the set of all calls.
func TestHasNoOtherCalls(t *testing.T) {
	for _, c := range samples() {
		for _, floor := range noFloors() {
			for _, dir := range append(noDirs(), api.DirUp, api.DirDown) {
				if calls.Has(c, floor, dir) {
					t.Errorf("Has(%+v, %d, %d): got true", c, floor, dir)
				}
			}
		}
		for floor := range 32 {
			for _, dir := range noDirs() {
				if calls.Has(c, floor, dir) {
					t.Errorf("Has(%+v, %d, %d): got true", c, floor, dir)
				}
			}
		}
	}
}

// P7.1: the set of each call has this call only.
func TestOne(t *testing.T) {
	expectSet(t, "One(0, up)", calls.One(0, api.DirUp), set(1, 0))
	expectSet(t, "One(0, down)", calls.One(0, api.DirDown), set(0, 1))
	expectSet(t, "One(3, down)", calls.One(3, api.DirDown), set(0, 8))
	expectSet(t, "One(31, up)", calls.One(31, api.DirUp), set(0x80000000, 0))
	expectSet(t, "One(31, down)", calls.One(31, api.DirDown), set(0, 0x80000000))
	for floor := range 32 {
		for _, dir := range []int{api.DirUp, api.DirDown} {
			want := keep(func(x call) bool { return x == call{floor, dir} })
			expectSet(t, fmt.Sprintf("One(%d, %d)", floor, dir), calls.One(floor, dir), want)
		}
	}
}

// P7.1: another floor or direction makes the empty set.
func TestOneOfNoCall(t *testing.T) {
	for _, dir := range append(noDirs(), api.DirUp, api.DirDown) {
		for _, floor := range noFloors() {
			expectSet(t, fmt.Sprintf("One(%d, %d)", floor, dir), calls.One(floor, dir), api.Calls{})
		}
	}
	for _, dir := range noDirs() {
		for floor := range 32 {
			expectSet(t, fmt.Sprintf("One(%d, %d)", floor, dir), calls.One(floor, dir), api.Calls{})
		}
	}
}

// P7.2: what is in a or b, in both, and in a only.
func TestTwoSets(t *testing.T) {
	a, b := set(0b1100, 0b0011), set(0b1010, 0b0110)
	expectSet(t, "Union", calls.Union(a, b), set(0b1110, 0b0111))
	expectSet(t, "Both", calls.Both(a, b), set(0b1000, 0b0010))
	expectSet(t, "Minus", calls.Minus(a, b), set(0b0100, 0b0001))
	expectSet(t, "Minus turned round", calls.Minus(b, a), set(0b0010, 0b0100))
}

// P7.2: with sets of all kinds.
func TestTwoSamples(t *testing.T) {
	l := samples()
	for i, a := range l {
		for _, b := range []api.Calls{{}, set(allFloors, allFloors), a, l[(i+1)%len(l)], l[(7*i+3)%len(l)], l[len(l)-1-i]} {
			inA, inB := modelOf(a), modelOf(b)
			what := fmt.Sprintf(" of %+v and %+v", a, b)
			expectSet(t, "Union"+what, calls.Union(a, b), keep(func(x call) bool { return inA[x] || inB[x] }))
			expectSet(t, "Both"+what, calls.Both(a, b), keep(func(x call) bool { return inA[x] && inB[x] }))
			expectSet(t, "Minus"+what, calls.Minus(a, b), keep(func(x call) bool { return inA[x] && !inB[x] }))
		}
	}
}

// P7.2: at the floor itself, at both ends and beyond them.
func TestSides(t *testing.T) {
	c := set(allFloors, 0b10101)
	for _, x := range []struct {
		floor        int
		above, below api.Calls
	}{
		{0, set(0xFFFFFFFE, 0b10100), set(0, 0)},
		{1, set(0xFFFFFFFC, 0b10100), set(1, 1)},
		{2, set(0xFFFFFFF8, 0b10000), set(3, 1)},
		{4, set(0xFFFFFFE0, 0), set(15, 0b00101)},
		{30, set(0x80000000, 0), set(0x3FFFFFFF, 0b10101)},
		{31, set(0, 0), set(0x7FFFFFFF, 0b10101)},
		{32, set(0, 0), c},
		{-1, c, set(0, 0)},
	} {
		expectSet(t, fmt.Sprintf("Above %d", x.floor), calls.Above(c, x.floor), x.above)
		expectSet(t, fmt.Sprintf("Below %d", x.floor), calls.Below(c, x.floor), x.below)
	}
}

// P7.2 and R1: sets of all kinds and every floor; behind the ends all calls are on one side, also far away.
func TestSidesOfSamples(t *testing.T) {
	floors := noFloors()
	for f := range 32 {
		floors = append(floors, f)
	}
	for _, c := range samples() {
		in := modelOf(c)
		for _, floor := range floors {
			above := keep(func(x call) bool { return in[x] && x.floor > floor })
			below := keep(func(x call) bool { return in[x] && x.floor < floor })
			expectSet(t, fmt.Sprintf("Above(%+v, %d)", c, floor), calls.Above(c, floor), above)
			expectSet(t, fmt.Sprintf("Below(%+v, %d)", c, floor), calls.Below(c, floor), below)
		}
	}
}

// P7.3: both directions are counted, up to all 64 calls.
func TestCount(t *testing.T) {
	for _, x := range []struct {
		c    api.Calls
		want int
	}{
		{api.Calls{}, 0}, {set(1, 0), 1}, {set(0, 1<<31), 1}, {set(1, 1), 2}, {set(5, 4), 3}, {set(0b1100, 0b0011), 4},
		{set(allFloors, 0), 32}, {set(0, allFloors), 32}, {set(allFloors, allFloors), 64}, {set(0x7FFFFFFF, 0xFFFFFFFE), 62},
	} {
		if got := calls.Count(x.c); got != x.want {
			t.Errorf("Count(%+v): got %d, want %d", x.c, got, x.want)
		}
	}
	for _, c := range samples() {
		want := 0
		for _, is := range modelOf(c) {
			if is {
				want++
			}
		}
		if got := calls.Count(c); got != want {
			t.Errorf("Count(%+v): got %d, want %d", c, got, want)
		}
	}
}

func expectList(t *testing.T, c api.Calls, want ...api.Entry) {
	t.Helper()
	if got := calls.List(c); !slices.Equal(got, want) {
		t.Errorf("List(%+v): got %+v, want %+v", c, got, want)
	}
}

// P7.3: the chapter's example, one call, and calls at both ends. No entry has a car, moves, or was moved.
func TestList(t *testing.T) {
	expectList(t, set(5, 4), api.Entry{Floor: 0, Dir: 1, Car: -1}, api.Entry{Floor: 2, Dir: 1, Car: -1}, api.Entry{Floor: 2, Dir: 2, Car: -1})
	expectList(t, set(0, 2), api.Entry{Floor: 1, Dir: 2, Car: -1})
	expectList(t, set(4, 2), api.Entry{Floor: 1, Dir: 2, Car: -1}, api.Entry{Floor: 2, Dir: 1, Car: -1})
	expectList(t, set(1<<31, 1), api.Entry{Floor: 0, Dir: 2, Car: -1}, api.Entry{Floor: 31, Dir: 1, Car: -1})
	expectList(t, set(1<<31, 1<<31), api.Entry{Floor: 31, Dir: 1, Car: -1}, api.Entry{Floor: 31, Dir: 2, Car: -1})
}

// P7.3 and R4: the empty set has no entries.
func TestListOfNothing(t *testing.T) {
	expectList(t, api.Calls{})
}

// P7.3: sets of all kinds: an entry for each call, and the ascending order.
func TestListOfSamples(t *testing.T) {
	for _, c := range samples() {
		in, want := modelOf(c), []api.Entry{}
		for floor := range 32 {
			for _, dir := range []int{api.DirUp, api.DirDown} {
				if in[call{floor, dir}] {
					want = append(want, api.Entry{Floor: floor, Dir: dir, Car: api.CarNone})
				}
			}
		}
		expectList(t, c, want...)
	}
}

// P7.3: entries in any order, twice, with cars and moves.
func TestOf(t *testing.T) {
	expectSet(t, "Of one", calls.Of([]api.Entry{{Floor: 3, Dir: api.DirUp}}), set(8, 0))
	expectSet(t, "Of two directions", calls.Of([]api.Entry{{Floor: 3, Dir: api.DirDown}, {Floor: 3, Dir: api.DirUp}}), set(8, 8))
	expectSet(t, "Of any order", calls.Of([]api.Entry{{Floor: 31, Dir: api.DirDown}, {Floor: 0, Dir: api.DirUp}, {Floor: 7, Dir: api.DirUp}}), set(0x81, 1<<31))
	expectSet(t, "Of equal calls", calls.Of([]api.Entry{{Floor: 4, Dir: api.DirDown}, {Floor: 4, Dir: api.DirDown}, {Floor: 4, Dir: api.DirDown, Car: 2}}), set(0, 16))
	expectSet(t, "Of assigned calls", calls.Of([]api.Entry{
		{Floor: 1, Dir: api.DirUp, Car: api.CarAll, Moves: 255, Moved: true}, {Floor: 2, Dir: api.DirUp, Car: api.CarNone},
		{Floor: 5, Dir: api.DirDown, Car: 7, Moves: -1}, {Floor: 6, Dir: api.DirDown, Car: math.MinInt, Moved: true},
	}), set(6, 0x60))
}

// P7.3: entries with another floor or direction do not count, and leave the others as they are.
func TestOfNoCalls(t *testing.T) {
	l := []api.Entry{{Floor: 9, Dir: api.DirUp}}
	for _, floor := range noFloors() {
		l = append(l, api.Entry{Floor: floor, Dir: api.DirUp}, api.Entry{Floor: floor, Dir: api.DirDown}, api.Entry{Floor: floor})
	}
	l = append(l, api.Entry{Floor: 10, Dir: api.DirDown})
	for _, dir := range noDirs() {
		l = append(l, api.Entry{Floor: 0, Dir: dir}, api.Entry{Floor: 31, Dir: dir}, api.Entry{Floor: -1, Dir: dir})
	}
	l = append(l, api.Entry{Floor: 31, Dir: api.DirUp})
	expectSet(t, "Of the first and the last call", calls.Of(l), set(1<<9|1<<31, 1<<10))
	expectSet(t, "Of no calls", calls.Of(slices.DeleteFunc(l, func(e api.Entry) bool { return e.Floor >= 9 && e.Floor <= 31 && e.Dir >= 1 && e.Dir <= 2 })), api.Calls{})
}

// P7.3 and R4: no entries, whether they are nil or empty, make the empty set.
func TestOfNothing(t *testing.T) {
	for _, none := range [][]api.Entry{nil, {}, make([]api.Entry, 0, 3)} {
		expectSet(t, "Of nothing", calls.Of(none), api.Calls{})
	}
}

// The chapter's consequence: Of(List(c)) is c; the order of the entries does not count.
func TestOfList(t *testing.T) {
	for _, c := range samples() {
		l := calls.List(c)
		expectSet(t, "Of List", calls.Of(l), c)
		slices.Reverse(l)
		expectSet(t, "Of List turned round", calls.Of(append(l, l...)), c)
	}
}

// The chapter's consequence: the calls above a floor, those below it and those at it make up c, and no call is in two
// of these.
func TestThreeParts(t *testing.T) {
	for _, c := range samples() {
		for floor := -2; floor <= 33; floor++ {
			here := calls.Both(c, calls.Union(calls.One(floor, api.DirUp), calls.One(floor, api.DirDown)))
			above, below := calls.Above(c, floor), calls.Below(c, floor)
			expectSet(t, fmt.Sprintf("the parts of %+v at %d", c, floor), calls.Union(calls.Union(above, below), here), c)
			if sum := calls.Count(above) + calls.Count(below) + calls.Count(here); sum != calls.Count(c) {
				t.Errorf("the parts of %+v at %d have %d calls, want %d", c, floor, sum, calls.Count(c))
			}
		}
	}
}

// R3: entries are neither changed nor kept, nor is the room behind them, and results share nothing.
func TestMemory(t *testing.T) {
	room := []api.Entry{{Floor: 3, Dir: 1, Car: 2}, {Floor: 1, Dir: 2, Moves: 4}, {Floor: 40, Dir: 1}, {Floor: 5, Dir: 1}, {Floor: 6, Dir: 9, Moved: true}}
	before := slices.Clone(room)
	of := calls.Of(room[:3])
	if !slices.Equal(room, before) {
		t.Errorf("Of changed its argument: %+v", room)
	}
	clear(room)
	expectSet(t, "Of", of, set(8, 2))
	for _, c := range []api.Calls{{}, set(5, 4), set(allFloors, allFloors)} {
		first, second := calls.List(c), calls.List(c)
		want := slices.Clone(second)
		clear(first[:cap(first)])
		if !slices.Equal(second, want) {
			t.Errorf("a result shares memory: it is %+v", second)
		}
		expectList(t, c, want...)
	}
}

// R5: the same arguments give the same results, whatever has been called in between.
func TestSameResults(t *testing.T) {
	results := func() string {
		a, b := set(0b1100, 0b0011), set(0b1010, 0b0110)
		return fmt.Sprint(calls.Has(a, 2, 1), calls.One(3, 2), calls.Union(a, b), calls.Both(a, b), calls.Minus(a, b), calls.Above(a, 2), calls.Below(a, 3), calls.Count(a), calls.List(a), calls.Of(calls.List(b)))
	}
	first := results()
	for _, c := range samples() {
		calls.Of(append(calls.List(calls.Above(c, 9)), api.Entry{Floor: 99, Dir: 1}))
		calls.Has(calls.Below(c, 20), 7, 3)
	}
	if second := results(); first != second {
		t.Errorf("the results changed from %s to %s", first, second)
	}
}
