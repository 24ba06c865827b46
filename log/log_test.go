package log_test

import (
	"fmt"
	"math"
	"math/rand"
	"testing"

	"overlay/api"
	"overlay/log"
	"overlay/record"
)

// house returns a valid building with room for all of its calls.
func house(floors, cars int) api.Building {
	b := api.Building{Floors: floors, Debounce: 1, Room: 2000, Park: 1, Empty: 0.125, Full: 0.75, Over: 1.125}
	for range cars {
		b.Cars = append(b.Cars, api.Car{Deadline: 100, Pulse: 1, Quiet: 1, Step: 4, Travel: 2, Dwell: 10, Hold: 10})
	}
	return b
}

// roomy returns b with another Room.
func roomy(b api.Building, room int) api.Building {
	b.Room = room
	return b
}

// houses are buildings at both ends of the ranges of floors and cars, and between them.
func houses() []api.Building {
	return []api.Building{house(2, 1), house(3, 1), house(4, 2), house(9, 3), house(2, 8), house(32, 8)}
}

// noHouses returns a building for each error of building.Valid.
func noHouses() map[string]api.Building {
	times, loads := house(4, 2), house(4, 2)
	times.Cars[1].Home, loads.Full = 4, math.NaN()
	return map[string]api.Building{
		"no building": {}, "a floor": house(1, 2), "33 floors": house(33, 2), "no cars": house(4, 0), "nine cars": house(4, 9),
		"ErrTimes": times, "ErrLoads": loads, "ErrRoom": roomy(house(4, 2), 59), "ErrRoom above": roomy(house(4, 2), 65537),
	}
}

// call is a hall call.
type call struct{ floor, dir int }

// hallCalls are those of the definition, in ascending order of floor and direction.
func hallCalls(b api.Building) []call {
	var l []call
	for f := range b.Floors {
		if f < b.Floors-1 {
			l = append(l, call{f, 1})
		}
		if f > 0 {
			l = append(l, call{f, 2})
		}
	}
	return l
}

// valid are valid records of a building: all of them but for the numbers of moves, of which some are left out.
func valid(b api.Building) []api.Record {
	var l []api.Record
	for _, c := range hallCalls(b) {
		l = append(l, register(c.floor, c.dir), served(c.floor, c.dir))
		for car := -2; car < len(b.Cars); car++ {
			l = append(l, api.Record{Kind: 3, Floor: c.floor, Dir: c.dir, Car: car})
		}
		for _, n := range []int{0, 1, 2, 9, 128, 254, 255} {
			l = append(l, api.Record{Kind: 7, Floor: c.floor, Dir: c.dir, Value: n}, api.Record{Kind: 7, Floor: c.floor, Dir: c.dir, Car: 1, Value: n})
		}
	}
	for car := range b.Cars {
		for phase := range 5 {
			l = append(l, api.Record{Kind: 4, Car: car, Value: phase})
		}
		for value := range 2 {
			l = append(l, api.Record{Kind: 5, Car: car, Value: value}, api.Record{Kind: 6, Car: car, Value: value})
		}
	}
	return l
}

// noRecords are records that are not valid in a building with 4 floors and two cars, one or more of each kind.
func noRecords() []api.Record {
	return []api.Record{
		{}, {Kind: -1, Floor: 1, Dir: 1}, {Kind: 8, Floor: 1, Dir: 1}, {Kind: math.MaxInt, Floor: 1, Dir: 1},
		register(3, 1), register(0, 2), register(-1, 1), register(4, 2), register(1, 0), register(1, 3), {Kind: 1, Floor: 1, Dir: 1, Car: -1}, {Kind: 1, Floor: 1, Dir: 1, Value: 1},
		served(3, 1), served(1, 3), {Kind: 2, Floor: 1, Dir: 1, Car: 1}, {Kind: 2, Floor: 1, Dir: 1, Value: 1},
		{Kind: 3, Floor: 1, Dir: 1, Car: 2}, {Kind: 3, Floor: 1, Dir: 1, Car: -3}, {Kind: 3, Floor: 3, Dir: 1}, {Kind: 3, Floor: 1, Dir: 1, Value: 1},
		{Kind: 4, Car: 2}, {Kind: 4, Car: -1}, {Kind: 4, Value: 5}, {Kind: 4, Value: -1}, {Kind: 4, Floor: 1}, {Kind: 4, Dir: 1},
		{Kind: 5, Car: 2}, {Kind: 5, Car: -1}, {Kind: 5, Value: 2}, {Kind: 5, Value: -1}, {Kind: 6, Car: 2}, {Kind: 6, Car: -2}, {Kind: 6, Value: 2},
		{Kind: 7, Floor: 1, Dir: 1, Car: 2}, {Kind: 7, Floor: 1, Dir: 1, Car: -1}, {Kind: 7, Floor: 1, Dir: 1, Value: 256}, {Kind: 7, Floor: 1, Dir: 1, Value: -1}, {Kind: 7, Floor: 0, Dir: 2},
	}
}

func register(floor, dir int) api.Record { return api.Record{Kind: 1, Floor: floor, Dir: dir} }

func served(floor, dir int) api.Record { return api.Record{Kind: 2, Floor: floor, Dir: dir} }

func assign(floor, dir, car int) api.Record {
	return api.Record{Kind: 3, Floor: floor, Dir: dir, Car: car}
}

func flag(car, value int) api.Record { return api.Record{Kind: 5, Car: car, Value: value} }

func entry(floor, dir, car int) api.Entry { return api.Entry{Floor: floor, Dir: dir, Car: car} }

// image makes an image with Legacy cars.
func image(cars int, l ...api.Entry) api.Image {
	return api.Image{Phases: make([]int, cars), Flags: make([]bool, cars), Leaving: make([]bool, cars), Entries: l}
}

// everyCall is the image with all calls of a building.
func everyCall(b api.Building) api.Image {
	m := image(len(b.Cars))
	for _, c := range hallCalls(b) {
		m.Entries = append(m.Entries, entry(c.floor, c.dir, -1))
	}
	return m
}

// anyImage is an image without a rule, with at most calls entries.
func anyImage(b api.Building, calls int, random *rand.Rand) api.Image {
	m := image(len(b.Cars))
	for i := range b.Cars {
		m.Phases[i], m.Flags[i], m.Leaving[i] = random.Intn(5), random.Intn(2) == 0, random.Intn(2) == 0
	}
	for _, c := range hallCalls(b) {
		if len(m.Entries) < calls && random.Intn(3) > 0 {
			m.Entries = append(m.Entries, api.Entry{Floor: c.floor, Dir: c.dir, Car: random.Intn(len(b.Cars)+2) - 2, Moves: random.Intn(256), Moved: random.Intn(2) == 0})
		}
	}
	return m
}

// images are images of a building: none, all and some of its calls, and ends of all ranges.
func images(b api.Building) []api.Image {
	l := []api.Image{image(len(b.Cars)), everyCall(b)}
	for _, car := range []int{-2, -1, 0, len(b.Cars) - 1} {
		for _, moves := range []int{0, 1, 255} {
			m := everyCall(b)
			for i := range m.Phases {
				m.Phases[i], m.Flags[i], m.Leaving[i] = 4-i%5, moves > 0, moves > 1
			}
			for i := range m.Entries {
				m.Entries[i].Car, m.Entries[i].Moves, m.Entries[i].Moved = car, moves, car == 0
			}
			l = append(l, m)
		}
	}
	random := rand.New(rand.NewSource(int64(b.Floors)))
	for range 20 {
		l = append(l, anyImage(b, 99, random))
	}
	return l
}

// noImages are images that are none of a building with 4 floors and two cars, by what is wrong with them.
func noImages() map[string]api.Image {
	many := everyCall(house(4, 2)).Entries
	m := map[string]api.Image{
		"the zero image": {}, "a car": image(1), "three cars": image(3), "entries only": {Entries: many},
		"the last floor up": image(2, entry(3, 1, 0)), "the first floor down": image(2, entry(0, 2, 0)), "a floor below": image(2, entry(-1, 1, 0)),
		"a floor above": image(2, entry(4, 2, 0)), "floor 32": image(2, entry(32, 1, 0)), "the greatest floor": image(2, entry(math.MaxInt, 1, 0)),
		"the least floor": image(2, entry(math.MinInt, 2, 0)), "no direction": image(2, entry(1, 0, 0)), "both directions": image(2, entry(1, 3, 0)),
		"a direction below": image(2, entry(1, -1, 0)), "a bad entry behind others": image(2, append(append([]api.Entry{}, many...), entry(4, 2, 0))...),
		"a car above": image(2, entry(1, 1, 2)), "a car below": image(2, entry(1, 1, -3)), "the greatest car": image(2, entry(1, 1, math.MaxInt)),
		"the least car": image(2, entry(1, 1, math.MinInt)), "moves below": image(2, api.Entry{Floor: 1, Dir: 1, Moves: -1}),
		"moves above": image(2, api.Entry{Floor: 1, Dir: 1, Moves: 256}), "the most moves": image(2, api.Entry{Floor: 1, Dir: 1, Moves: math.MaxInt}),
		"the least moves": image(2, api.Entry{Floor: 1, Dir: 1, Moves: math.MinInt}), "directions descend": image(2, entry(1, 2, 0), entry(1, 1, 0)),
		"floors descend": image(2, entry(2, 1, 0), entry(1, 1, 0)), "floors descend, directions ascend": image(2, entry(2, 1, 0), entry(1, 2, 0)),
		"a call twice": image(2, entry(1, 1, 0), entry(1, 1, 0)), "a call twice, of two cars": image(2, entry(1, 2, 0), entry(1, 2, 1)),
		"the last call twice": image(2, append(append([]api.Entry{}, many...), many[5])...),
	}
	for _, phase := range []int{-1, 5, math.MinInt, math.MaxInt} {
		for car := range 2 {
			x := image(2, entry(1, 1, 0))
			x.Phases[car] = phase
			m[fmt.Sprint("phase ", phase, " of car ", car)] = x
		}
	}
	for n := range 5 {
		if n != 2 {
			phases, flags, leaving := image(2, entry(1, 1, 0)), image(2, entry(1, 1, 0)), image(2, entry(1, 1, 0))
			phases.Phases, flags.Flags, leaving.Leaving = make([]int, n), make([]bool, n), make([]bool, n)
			m[fmt.Sprint("phases: ", n)], m[fmt.Sprint("flags: ", n)], m[fmt.Sprint("leaving: ", n)] = phases, flags, leaving
		}
	}
	return m
}

// text is the printed form, in which an empty list is like none.
func text(x any) string { return fmt.Sprintf("%+v", x) }

// behind is what Apply returns for an image and a valid record, by the chapter: a set of entries, put in order at last.
func behind(b api.Building, m api.Image, r api.Record) api.Image {
	next := image(len(b.Cars))
	copy(next.Phases, m.Phases)
	copy(next.Flags, m.Flags)
	copy(next.Leaving, m.Leaving)
	set := map[call]api.Entry{}
	for _, e := range m.Entries {
		set[call{e.Floor, e.Dir}] = e
	}
	c := call{r.Floor, r.Dir}
	e, found := set[c]
	switch r.Kind {
	case 1:
		if !found {
			set[c] = entry(r.Floor, r.Dir, -1)
		}
	case 2:
		delete(set, c)
	case 3:
		if e.Car = r.Car; found {
			set[c] = e
		}
	case 4:
		next.Phases[r.Car] = r.Value
	case 5:
		next.Flags[r.Car] = r.Value == 1
	case 6:
		next.Leaving[r.Car] = r.Value == 1
	case 7:
		if e.Moves, e.Moved = r.Value, r.Car == 1; found {
			set[c] = e
		}
	}
	for _, c := range hallCalls(b) {
		if e, found := set[c]; found {
			next.Entries = append(next.Entries, e)
		}
	}
	return next
}

// snapshot is what Snapshot returns for an image, by the chapter.
func snapshot(m api.Image) []api.Record {
	number := map[bool]int{true: 1}
	var l []api.Record
	for car := range m.Phases {
		l = append(l, api.Record{Kind: 4, Car: car, Value: m.Phases[car]}, flag(car, number[m.Flags[car]]), api.Record{Kind: 6, Car: car, Value: number[m.Leaving[car]]})
	}
	for _, e := range m.Entries {
		l = append(l, register(e.Floor, e.Dir), assign(e.Floor, e.Dir, e.Car), api.Record{Kind: 7, Floor: e.Floor, Dir: e.Dir, Car: number[e.Moved], Value: e.Moves})
	}
	return l
}

// written are the bytes of records.
func written(b api.Building, l ...api.Record) string {
	out := ""
	for _, r := range l {
		s, _ := record.Encode(b, r)
		out += s
	}
	return out
}

func expectText(t *testing.T, what string, got, want any) {
	t.Helper()
	if text(got) != text(want) {
		t.Errorf("%s: got %s, want %s", what, text(got), text(want))
	}
}

func expectIsImage(t *testing.T, what string, b api.Building, m api.Image, want bool) {
	t.Helper()
	if got := log.IsImage(b, m); got != want {
		t.Errorf("IsImage, %s, %d floors, %d cars, %s: got %v, want %v", what, b.Floors, len(b.Cars), text(m), got, want)
	}
}

// P10.1: the image ahead of all records.
func TestInitial(t *testing.T) {
	expectText(t, "Initial", log.Initial(house(4, 2)), api.Image{Phases: []int{0, 0}, Flags: []bool{false, false}, Leaving: []bool{false, false}})
	for _, b := range houses() {
		m := log.Initial(b)
		expectText(t, "Initial", m, image(len(b.Cars)))
		expectIsImage(t, "Initial", b, m, true)
	}
	for what, b := range noHouses() {
		expectText(t, "Initial, "+what, log.Initial(b), api.Image{})
	}
}

// P10.1: images of buildings of all sizes; what is one in a building is one in another with as many cars, and the calls.
func TestIsImage(t *testing.T) {
	for _, b := range houses() {
		for _, m := range images(b) {
			expectIsImage(t, "an image", b, m, true)
			for _, other := range houses() {
				fits := len(other.Cars) == len(b.Cars)
				for _, e := range m.Entries {
					fits = fits && e.Floor < other.Floors && (e.Dir == 2 || e.Floor < other.Floors-1)
				}
				expectIsImage(t, "an image of another building", other, m, fits)
			}
		}
	}
}

// P10.1: all that can be wrong with an image, in the building that it is made for.
func TestIsNoImage(t *testing.T) {
	b := house(4, 2)
	expectIsImage(t, "all calls", b, everyCall(b), true)
	for what, m := range noImages() {
		expectIsImage(t, what, b, m, false)
	}
}

// P10.1: every entry that an image can have or not, alone, and in the midst of others.
func TestIsImageEntries(t *testing.T) {
	b := house(4, 2)
	for floor := -2; floor <= 5; floor++ {
		for dir := -1; dir <= 4; dir++ {
			for car := -4; car <= 4; car++ {
				for _, moves := range []int{-256, -1, 0, 1, 7, 254, 255, 256, 257} {
					e := api.Entry{Floor: floor, Dir: dir, Car: car, Moves: moves, Moved: moves%2 == 0}
					isCall := floor >= 0 && floor <= 3 && (dir == 1 && floor < 3 || dir == 2 && floor > 0)
					isFilled := car >= -2 && car <= 1 && moves >= 0 && moves <= 255
					expectIsImage(t, "an entry", b, image(2, e), isCall && isFilled)
					expectIsImage(t, "three entries", b, image(2, entry(1, 1, 0), e, entry(2, 1, 1)), isCall && isFilled && (floor == 1 && dir == 2))
				}
			}
		}
	}
}

// P10.1: every order of all pairs of calls.
func TestIsImageOrder(t *testing.T) {
	for _, b := range []api.Building{house(4, 2), house(32, 8)} {
		l := hallCalls(b)
		for i, c := range l {
			for k, d := range l {
				expectIsImage(t, "two entries", b, image(len(b.Cars), entry(c.floor, c.dir, 0), entry(d.floor, d.dir, -1)), i < k)
			}
		}
	}
}

// P10.1: nothing is an image of a building that is not valid.
func TestIsImageNoBuilding(t *testing.T) {
	for what, b := range noHouses() {
		for cars := range 10 {
			expectIsImage(t, what, b, image(cars), false)
		}
		expectIsImage(t, what, b, api.Image{}, false)
		expectIsImage(t, what, b, image(2, entry(1, 1, 0)), false)
	}
}

// P10.8: a difference in one part, in numbers, and in what there are of them.
func TestSame(t *testing.T) {
	expectSame := func(what string, a, b api.Image, want bool) {
		t.Helper()
		if log.Same(a, b) != want || log.Same(b, a) != want {
			t.Errorf("Same, %s, %s and %s: got %v and %v, want %v", what, text(a), text(b), log.Same(a, b), log.Same(b, a), want)
		}
	}
	start := func() api.Image {
		m := image(2, entry(1, 1, 0), api.Entry{Floor: 2, Dir: 1, Car: 1, Moves: 3, Moved: true})
		m.Phases[1], m.Flags[0], m.Leaving[1] = 3, true, true
		return m
	}
	expectSame("equal", start(), start(), true)
	for i, change := range []func(m *api.Image){
		func(m *api.Image) { m.Phases[0] = 1 }, func(m *api.Image) { m.Phases[1] = 0 }, func(m *api.Image) { m.Phases = m.Phases[:1] }, func(m *api.Image) { m.Phases = append(m.Phases, 0) }, func(m *api.Image) { m.Phases = nil },
		func(m *api.Image) { m.Flags[0] = false }, func(m *api.Image) { m.Flags[1] = true }, func(m *api.Image) { m.Flags = m.Flags[:1] }, func(m *api.Image) { m.Flags = append(m.Flags, false) }, func(m *api.Image) { m.Flags = nil },
		func(m *api.Image) { m.Leaving[0] = true }, func(m *api.Image) { m.Leaving[1] = false }, func(m *api.Image) { m.Leaving = m.Leaving[:1] }, func(m *api.Image) { m.Leaving = append(m.Leaving, false) }, func(m *api.Image) { m.Leaving = nil },
		func(m *api.Image) { m.Entries[0].Floor = 0 }, func(m *api.Image) { m.Entries[1].Dir = 2 }, func(m *api.Image) { m.Entries[0].Car = -1 }, func(m *api.Image) { m.Entries[1].Moves = 2 }, func(m *api.Image) { m.Entries[0].Moved = true },
		func(m *api.Image) { m.Entries = m.Entries[:1] }, func(m *api.Image) { m.Entries = append(m.Entries, entry(3, 2, 0)) }, func(m *api.Image) { m.Entries = nil },
		func(m *api.Image) { m.Entries[0], m.Entries[1] = m.Entries[1], m.Entries[0] }, func(m *api.Image) { m.Flags, m.Leaving = m.Leaving, m.Flags }, func(m *api.Image) { *m = api.Image{} },
	} {
		other := start()
		change(&other)
		expectSame(fmt.Sprint("change ", i), start(), other, false)
		expectSame(fmt.Sprint("the same change ", i), other, other, true)
	}
	expectSame("empty lists and none", api.Image{}, api.Image{Phases: []int{}, Flags: []bool{}, Leaving: []bool{}, Entries: []api.Entry{}}, true)
	expectSame("no entries", image(2), image(2, []api.Entry{}...), true)
}

// P10.8: also what is an image of no building is compared, and all images of a building with each other.
func TestSameOfAnything(t *testing.T) {
	var l []api.Image
	for _, m := range noImages() {
		l = append(l, m)
	}
	l = append(l, images(house(4, 2))...)
	for _, a := range l {
		for _, b := range l {
			if got, want := log.Same(a, b), text(a) == text(b); got != want {
				t.Errorf("Same of %s and %s: got %v, want %v", text(a), text(b), got, want)
			}
		}
	}
}
