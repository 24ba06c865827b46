package indicator_test

import (
	"fmt"
	"math"
	"math/rand"
	"testing"

	"overlay/api"
	"overlay/building"
	"overlay/indicator"
)

// noFloors are numbers of floors that no building has, among them those that have the lowest bits of one.
func noFloors() []int {
	return []int{
		1, 0, -1, -2, -3, -4, -31, -32, 33, 34, 35, 63, 64, 65, 66, 96, 100, 256, 256 + 4, 1<<16 + 4, math.MinInt,
		math.MinInt + 1, math.MinInt + 4, math.MaxInt, math.MaxInt - 27, math.MaxInt32, math.MinInt32,
	}
}

// samples are sets of floor contacts of all kinds: none, each one, each two, each one that is open, and some.
func samples() []uint32 {
	l := []uint32{0, math.MaxUint32, 7, 14, 0xAAAAAAAA, 0x55555555, 0xFFFF0000, 0xFFFF}
	for f := range 32 {
		l = append(l, 1<<f, ^uint32(1<<f))
		for other := range f {
			l = append(l, 1<<f|1<<other)
		}
	}
	r := rand.New(rand.NewSource(1))
	for range 100 {
		l = append(l, r.Uint32(), r.Uint32()&r.Uint32()&r.Uint32()&r.Uint32())
	}
	return l
}

// floorOf is the second way to a floor: it looks at one contact after the other.
func floorOf(floors int, contacts uint32) int {
	var closed []int
	for f := range 32 {
		if contacts/(1<<f)%2 == 1 {
			closed = append(closed, f)
		}
	}
	if floors < 2 || floors > 32 || len(closed) != 1 || closed[0] > floors-1 {
		return -1
	}
	return closed[0]
}

func expectFloor(t *testing.T, floors int, contacts uint32, want int) {
	t.Helper()
	if got := indicator.Floor(floors, contacts); got != want {
		t.Errorf("Floor(%d, %#x): got %d, want %d", floors, contacts, got, want)
	}
}

// P5.1: the chapter's example and the edges of the numbers of floors.
func TestFloor(t *testing.T) {
	for _, x := range []struct {
		floors   int
		contacts uint32
		want     int
	}{
		{4, 4, 2}, {4, 6, -1}, {4, 16, -1}, // the chapter's example
		{4, 1, 0}, {4, 2, 1}, {4, 8, 3}, {4, 0, -1}, {4, 15, -1},
		{2, 1, 0}, {2, 2, 1}, {2, 3, -1}, {2, 4, -1},
		{32, 1, 0}, {32, 0x40000000, 30}, {32, 0x80000000, 31}, {32, 0xC0000000, -1}, {32, 0xFFFFFFFF, -1},
		{31, 0x40000000, 30}, {31, 0x80000000, -1},
	} {
		expectFloor(t, x.floors, x.contacts, x.want)
	}
}

// P5.1: one closed contact is a floor exactly if it is below floors.
func TestFloorOfOneContact(t *testing.T) {
	for floors := 2; floors <= 32; floors++ {
		for f := range 32 {
			want := f
			if f >= floors {
				want = -1
			}
			expectFloor(t, floors, 1<<f, want)
		}
	}
}

// P5.1: all 32 contacts are counted: a second one that is closed leaves no floor, also if it is not below floors.
func TestFloorOfTwoContacts(t *testing.T) {
	for floors := 2; floors <= 32; floors++ {
		for f := range 32 {
			for other := range f {
				expectFloor(t, floors, 1<<f|1<<other, -1)
			}
		}
	}
}

// P5.1: no contacts, one, two and many, with every number of floors.
func TestFloorOfSamples(t *testing.T) {
	for floors := -2; floors <= 36; floors++ {
		for _, contacts := range samples() {
			expectFloor(t, floors, contacts, floorOf(floors, contacts))
		}
	}
}

// P5.1 and R1: without floors there is none, whatever is closed.
func TestFloorWithoutFloors(t *testing.T) {
	for _, floors := range noFloors() {
		for _, contacts := range samples() {
			expectFloor(t, floors, contacts, -1)
		}
	}
}

// directions are what the contacts Up and Down mean, and doors what Open and Closed mean.
func directions() map[[2]bool]int {
	return map[[2]bool]int{{false, false}: api.DirNone, {true, false}: api.DirUp, {false, true}: api.DirDown, {true, true}: api.DirBad}
}

func doors() map[[2]bool]int {
	return map[[2]bool]int{{false, false}: api.DoorMoving, {true, false}: api.DoorOpen, {false, true}: api.DoorClosed, {true, true}: api.DoorBad}
}

// expectDecode decodes all directions and doors with some floor contacts.
func expectDecode(t *testing.T, floors int, contacts uint32) {
	t.Helper()
	for updown, dir := range directions() {
		for ends, door := range doors() {
			c := api.Contacts{Floors: contacts, Up: updown[0], Down: updown[1], Open: ends[0], Closed: ends[1]}
			want := api.Obs{Floor: floorOf(floors, contacts), Dir: dir, Door: door}
			if got := indicator.Decode(floors, c); got != want {
				t.Errorf("Decode(%d, %+v): got %+v, want %+v", floors, c, got, want)
			}
		}
	}
}

// P5.2: each contact of the direction and of the door, alone and beside the other one.
func TestDecode(t *testing.T) {
	for _, x := range []struct {
		c    api.Contacts
		want api.Obs
	}{
		{api.Contacts{}, api.Obs{Floor: -1, Dir: api.DirNone, Door: api.DoorMoving}},
		{api.Contacts{Floors: 1}, api.Obs{Floor: 0, Dir: api.DirNone, Door: api.DoorMoving}},
		{api.Contacts{Up: true}, api.Obs{Floor: -1, Dir: api.DirUp, Door: api.DoorMoving}},
		{api.Contacts{Down: true}, api.Obs{Floor: -1, Dir: api.DirDown, Door: api.DoorMoving}},
		{api.Contacts{Up: true, Down: true}, api.Obs{Floor: -1, Dir: api.DirBad, Door: api.DoorMoving}},
		{api.Contacts{Open: true}, api.Obs{Floor: -1, Dir: api.DirNone, Door: api.DoorOpen}},
		{api.Contacts{Closed: true}, api.Obs{Floor: -1, Dir: api.DirNone, Door: api.DoorClosed}},
		{api.Contacts{Open: true, Closed: true}, api.Obs{Floor: -1, Dir: api.DirNone, Door: api.DoorBad}},
		{api.Contacts{Floors: 2, Up: true, Open: true}, api.Obs{Floor: 1, Dir: api.DirUp, Door: api.DoorOpen}},
		{api.Contacts{Floors: 8, Down: true, Closed: true}, api.Obs{Floor: 3, Dir: api.DirDown, Door: api.DoorClosed}},
		{api.Contacts{Floors: 6, Up: true, Closed: true}, api.Obs{Floor: -1, Dir: api.DirUp, Door: api.DoorClosed}},
		{api.Contacts{Floors: 16, Down: true, Open: true}, api.Obs{Floor: -1, Dir: api.DirDown, Door: api.DoorOpen}},
	} {
		if got := indicator.Decode(4, x.c); got != x.want {
			t.Errorf("Decode(4, %+v): got %+v, want %+v", x.c, got, x.want)
		}
	}
}

// P5.2: all directions and doors, with floor contacts of all kinds and every number of floors.
func TestDecodeOfSamples(t *testing.T) {
	for floors := 2; floors <= 32; floors++ {
		for _, contacts := range samples() {
			expectDecode(t, floors, contacts)
		}
	}
}

// P5.2 and R1: without floors only the floor is missing.
func TestDecodeWithoutFloors(t *testing.T) {
	for _, floors := range noFloors() {
		for _, contacts := range []uint32{0, 1, 2, 4, 3, 1 << 30, 1 << 31, math.MaxUint32} {
			expectDecode(t, floors, contacts)
		}
	}
}

// The chapter's consequence: every result of Decode is an observation.
func TestDecodedAreObservations(t *testing.T) {
	for floors := 2; floors <= 32; floors++ {
		for _, contacts := range samples() {
			for set := range 16 {
				c := api.Contacts{Floors: contacts, Up: set&1 != 0, Down: set&2 != 0, Open: set&4 != 0, Closed: set&8 != 0}
				if o := indicator.Decode(floors, c); !indicator.IsObs(floors, o) {
					t.Errorf("Decode(%d, %+v): %+v is no observation", floors, c, o)
				}
			}
		}
	}
}

// callOf is the second way to the only hall call that is shown: a floor with a direction, or false.
func callOf(floors int, o api.Obs) (floor, dir int, is bool) {
	for floor := range floors {
		for _, dir := range []int{api.DirUp, api.DirDown} {
			outward := floor == 0 && dir == api.DirDown || floor == floors-1 && dir == api.DirUp
			if !outward && o == (api.Obs{Floor: floor, Dir: dir, Door: api.DoorOpen}) {
				return floor, dir, true
			}
		}
	}
	return 0, 0, false
}

// setOf is the set of this call.
func setOf(floor, dir int) api.Calls {
	if dir == api.DirUp {
		return api.Calls{Up: 1 << floor}
	}
	return api.Calls{Down: 1 << floor}
}

func expectShows(t *testing.T, floors int, o api.Obs, want api.Calls) {
	t.Helper()
	if got := indicator.Shows(floors, o); got != want {
		t.Errorf("Shows(%d, %+v): got %+v, want %+v", floors, o, got, want)
	}
}

func expectIsObs(t *testing.T, floors int, o api.Obs, want bool) {
	t.Helper()
	if got := indicator.IsObs(floors, o); got != want {
		t.Errorf("IsObs(%d, %+v): got %v, want %v", floors, o, got, want)
	}
}

// P5.3: an open door with a direction shows a call; the last floor has none up, and the first one none down.
func TestShows(t *testing.T) {
	none := api.Calls{}
	for _, x := range []struct {
		floors int
		o      api.Obs
		want   api.Calls
	}{
		{4, api.Obs{Floor: 0, Dir: api.DirUp, Door: api.DoorOpen}, api.Calls{Up: 1}},
		{4, api.Obs{Floor: 2, Dir: api.DirUp, Door: api.DoorOpen}, api.Calls{Up: 4}},
		{4, api.Obs{Floor: 3, Dir: api.DirUp, Door: api.DoorOpen}, none},
		{4, api.Obs{Floor: 3, Dir: api.DirDown, Door: api.DoorOpen}, api.Calls{Down: 8}},
		{4, api.Obs{Floor: 1, Dir: api.DirDown, Door: api.DoorOpen}, api.Calls{Down: 2}},
		{4, api.Obs{Floor: 0, Dir: api.DirDown, Door: api.DoorOpen}, none},
		{4, api.Obs{Floor: -1, Dir: api.DirUp, Door: api.DoorOpen}, none},
		{4, api.Obs{Floor: -1, Dir: api.DirDown, Door: api.DoorOpen}, none},
		{4, api.Obs{Floor: 1, Dir: api.DirNone, Door: api.DoorOpen}, none},
		{4, api.Obs{Floor: 1, Dir: api.DirBad, Door: api.DoorOpen}, none},
		{4, api.Obs{Floor: 1, Dir: api.DirUp, Door: api.DoorMoving}, none},
		{4, api.Obs{Floor: 1, Dir: api.DirUp, Door: api.DoorClosed}, none},
		{4, api.Obs{Floor: 1, Dir: api.DirUp, Door: api.DoorBad}, none},
		{2, api.Obs{Floor: 0, Dir: api.DirUp, Door: api.DoorOpen}, api.Calls{Up: 1}},
		{2, api.Obs{Floor: 1, Dir: api.DirDown, Door: api.DoorOpen}, api.Calls{Down: 2}},
		{32, api.Obs{Floor: 30, Dir: api.DirUp, Door: api.DoorOpen}, api.Calls{Up: 1 << 30}},
		{32, api.Obs{Floor: 31, Dir: api.DirUp, Door: api.DoorOpen}, none},
		{32, api.Obs{Floor: 31, Dir: api.DirDown, Door: api.DoorOpen}, api.Calls{Down: 1 << 31}},
	} {
		expectIsObs(t, x.floors, x.o, true)
		expectShows(t, x.floors, x.o, x.want)
	}
}

// P5.3: all floors, directions and doors, and some beyond them, with every number of floors.
func TestObservations(t *testing.T) {
	for floors := -2; floors <= 36; floors++ {
		for floor := -3; floor <= 36; floor++ {
			for dir := -2; dir <= 5; dir++ {
				for door := -2; door <= 5; door++ {
					o := api.Obs{Floor: floor, Dir: dir, Door: door}
					is := 2 <= floors && floors <= 32 && -1 <= floor && floor < floors && 0 <= dir && dir <= 3 && 0 <= door && door <= 3
					expectIsObs(t, floors, o, is)
					want := api.Calls{}
					if f, d, shown := callOf(floors, o); is && shown {
						want = setOf(f, d)
					}
					expectShows(t, floors, o, want)
				}
			}
		}
	}
}

// P5.3 and R1: without floors, or with one number far out of its range, there is no observation, and it shows nothing.
func TestNoObservations(t *testing.T) {
	for floors := 2; floors <= 32; floors++ {
		for _, dir := range []int{api.DirUp, api.DirDown} {
			for _, wrong := range []int{-2, 33, 64, 65, 256, 257, 258, 1<<16 + 1, 1<<32 + 1, math.MaxInt32, math.MinInt32, math.MaxInt, math.MinInt, math.MinInt + 1, math.MinInt + 2} {
				for _, o := range []api.Obs{{Floor: wrong, Dir: dir, Door: api.DoorOpen}, {Floor: 1, Dir: wrong, Door: api.DoorOpen}, {Floor: 1, Dir: dir, Door: wrong}} {
					expectIsObs(t, floors, o, false)
					expectShows(t, floors, o, api.Calls{})
				}
			}
		}
	}
	for _, floors := range noFloors() {
		for floor := -1; floor <= 33; floor++ {
			for _, dir := range []int{api.DirNone, api.DirUp, api.DirDown} {
				o := api.Obs{Floor: floor, Dir: dir, Door: api.DoorOpen}
				expectIsObs(t, floors, o, false)
				expectShows(t, floors, o, api.Calls{})
			}
		}
	}
}

// The chapter's consequence: Shows has at most one element. Each one is a hall call of the building, and each hall
// call is shown by one observation.
func TestShownCalls(t *testing.T) {
	for floors := 2; floors <= 32; floors++ {
		all, count := api.Calls{}, 0
		for floor := -1; floor < floors; floor++ {
			for place := range 16 {
				c := indicator.Shows(floors, api.Obs{Floor: floor, Dir: place % 4, Door: place / 4})
				if c == (api.Calls{}) {
					continue
				}
				count++
				if c.Up&(c.Up-1) != 0 || c.Down&(c.Down-1) != 0 || c.Up != 0 && c.Down != 0 {
					t.Errorf("Shows with %d floors: more than one call, %+v", floors, c)
				}
				all.Up, all.Down = all.Up|c.Up, all.Down|c.Down
			}
		}
		b := api.Building{
			Floors: floors, Debounce: 1, Room: 42, Park: 1, Empty: 0.1, Full: 0.8, Over: 1.1,
			Cars: []api.Car{{Deadline: 1, Pulse: 1, Quiet: 1, Step: 1, Travel: 1, Dwell: 1, Hold: 1}},
		}
		if want := building.Hall(b); all != want || count != 2*floors-2 {
			t.Errorf("Shows with %d floors: got %+v in %d observations, want %+v", floors, all, count, want)
		}
	}
}

// R5: the same arguments give the same results, whatever has been called in between.
func TestSameResults(t *testing.T) {
	results := func() string {
		o := indicator.Decode(4, api.Contacts{Floors: 4, Up: true, Open: true})
		bad := indicator.Decode(4, api.Contacts{Floors: 6, Up: true, Down: true, Closed: true})
		return fmt.Sprint(o, bad, indicator.Floor(4, 8), indicator.Shows(4, o), indicator.Shows(2, o), indicator.IsObs(4, bad))
	}
	first := results()
	for floors := range 40 {
		for _, contacts := range samples() {
			indicator.Shows(floors, indicator.Decode(floors, api.Contacts{Floors: contacts, Down: true, Closed: true}))
		}
	}
	if second := results(); first != second {
		t.Errorf("the results changed from %s to %s", first, second)
	}
}
