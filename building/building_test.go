package building_test

import (
	"fmt"
	"math"
	"reflect"
	"testing"

	"overlay/api"
	"overlay/building"
)

// sample is a valid building with 5 floors and three cars that differ in all their times.
func sample() api.Building {
	return api.Building{
		Floors: 5, Debounce: 3, Room: 500, Park: 40, Empty: 0.125, Full: 0.75, Over: 1.125,
		Cars: []api.Car{
			{Deadline: 100, Pulse: 3, Quiet: 5, Slack: 4, Step: 4, Travel: 2, Dwell: 6, Hold: 10, Home: 0},
			{Deadline: 200, Pulse: 2, Quiet: 9, Slack: 0, Step: 7, Travel: 3, Dwell: 5, Hold: 12, Home: 2},
			{Deadline: 150, Pulse: 1, Quiet: 8, Slack: 6, Step: 5, Travel: 1, Dwell: 4, Hold: 11, Home: 4},
		},
	}
}

// with returns the sample with a change.
func with(change func(b *api.Building)) api.Building {
	b := sample()
	change(&b)
	return b
}

// withCars returns the sample with n cars, and with as much room as they need.
func withCars(n int) api.Building {
	return with(func(b *api.Building) {
		b.Cars = make([]api.Car, n)
		for i := range b.Cars {
			b.Cars[i] = sample().Cars[i%3]
		}
		b.Room = 18*n + 24
	})
}

// smallest and largest are valid buildings with every number at an end of its range.
func smallest() api.Building {
	return api.Building{
		Floors: 2, Debounce: 1, Room: 42, Park: 1,
		Empty: math.SmallestNonzeroFloat64, Full: 2 * math.SmallestNonzeroFloat64, Over: 3 * math.SmallestNonzeroFloat64,
		Cars: []api.Car{{Deadline: 1, Pulse: 1, Quiet: 1, Slack: 0, Step: 1, Travel: 1, Dwell: 1, Hold: 1, Home: 0}},
	}
}

func largest() api.Building {
	car := api.Car{Deadline: 10000, Pulse: 10000, Quiet: 10000, Slack: 10000, Step: 10000, Travel: 10000, Dwell: 10000, Hold: 10000, Home: 31}
	return api.Building{
		Floors: 32, Debounce: 16, Room: 65536, Park: 10000,
		Empty: math.MaxFloat64 / 4, Full: math.MaxFloat64 / 2, Over: math.MaxFloat64,
		Cars: []api.Car{car, car, car, car, car, car, car, car},
	}
}

// invalid returns a building for each error, by the name of the error.
func invalid() map[string]api.Building {
	return map[string]api.Building{
		"no building": {},
		"ErrFloors":   with(func(b *api.Building) { b.Floors = 33 }),
		"ErrCars":     with(func(b *api.Building) { b.Cars = nil }),
		"ErrTimes":    with(func(b *api.Building) { b.Cars[2].Hold = 3 }),
		"ErrLoads":    with(func(b *api.Building) { b.Over = math.NaN() }),
		"ErrRoom":     with(func(b *api.Building) { b.Room = 77 }),
	}
}

func expectValid(t *testing.T, what string, b api.Building, want api.Errno) {
	t.Helper()
	if got := building.Valid(b); got != want {
		t.Errorf("Valid, %s: got %d, want %d", what, got, want)
	}
}

// P1.1: ordinary buildings, and those at the ends of all ranges.
func TestValidAcceptsBuildings(t *testing.T) {
	expectValid(t, "the sample", sample(), api.OK)
	expectValid(t, "all numbers at their lower ends", smallest(), api.OK)
	expectValid(t, "all numbers at their upper ends", largest(), api.OK)
	expectValid(t, "a home on the last floor", with(func(b *api.Building) { b.Floors, b.Cars[0].Home = 5, 4 }), api.OK)
	expectValid(t, "a door that closes when it has stayed open", with(func(b *api.Building) { b.Cars[1].Dwell, b.Cars[1].Hold = 9, 9 }), api.OK)
}

// P1.1: Floors is from 2 to MaxFloors.
func TestValidFloors(t *testing.T) {
	for _, floors := range []int{math.MinInt, -1, 0, 1, 33, 1 << 32, math.MaxInt} {
		expectValid(t, fmt.Sprint("floors ", floors), with(func(b *api.Building) { b.Floors = floors }), api.ErrFloors)
	}
	for floors := 2; floors <= 32; floors++ {
		b := with(func(b *api.Building) { b.Floors, b.Cars[1].Home, b.Cars[2].Home = floors, floors-1, 1 })
		expectValid(t, fmt.Sprint("floors ", floors), b, api.OK)
	}
}

// P1.1: there are 1 to MaxCars cars.
func TestValidCars(t *testing.T) {
	for n := 0; n <= 12; n++ {
		want := api.ErrCars
		if n >= 1 && n <= 8 {
			want = api.OK
		}
		expectValid(t, fmt.Sprint("cars ", n), withCars(n), want)
	}
	expectValid(t, "an empty slice of cars", with(func(b *api.Building) { b.Cars = []api.Car{} }), api.ErrCars)
}

// P1.1: the ranges of the building's own times.
func TestValidTimesOfTheBuilding(t *testing.T) {
	for _, x := range []struct {
		value int
		want  api.Errno
	}{{math.MinInt, api.ErrTimes}, {-1, api.ErrTimes}, {0, api.ErrTimes}, {1, api.OK}, {16, api.OK}, {17, api.ErrTimes}, {math.MaxInt, api.ErrTimes}} {
		expectValid(t, fmt.Sprint("Debounce ", x.value), with(func(b *api.Building) { b.Debounce = x.value }), x.want)
	}
	for _, x := range []struct {
		value int
		want  api.Errno
	}{{math.MinInt, api.ErrTimes}, {-1, api.ErrTimes}, {0, api.ErrTimes}, {1, api.OK}, {17, api.OK}, {10000, api.OK}, {10001, api.ErrTimes}, {math.MaxInt, api.ErrTimes}} {
		expectValid(t, fmt.Sprint("Park ", x.value), with(func(b *api.Building) { b.Park = x.value }), x.want)
	}
}

// P1.1: the ranges of the times of each car, at every place in the list of cars.
func TestValidTimesOfTheCars(t *testing.T) {
	fields := []struct {
		name    string
		lowest  int
		highest int
		field   func(c *api.Car) *int
	}{
		{"Deadline", 1, 10000, func(c *api.Car) *int { return &c.Deadline }},
		{"Pulse", 1, 10000, func(c *api.Car) *int { return &c.Pulse }},
		{"Quiet", 1, 10000, func(c *api.Car) *int { return &c.Quiet }},
		{"Slack", 0, 10000, func(c *api.Car) *int { return &c.Slack }},
		{"Step", 1, 10000, func(c *api.Car) *int { return &c.Step }},
		{"Travel", 1, 10000, func(c *api.Car) *int { return &c.Travel }},
		{"Dwell", 1, 10, func(c *api.Car) *int { return &c.Dwell }},  // Hold is 10 below
		{"Hold", 6, 10000, func(c *api.Car) *int { return &c.Hold }}, // Dwell is 6 below
		{"Home", 0, 4, func(c *api.Car) *int { return &c.Home }},     // there are 5 floors
	}
	for car := range 3 {
		for _, f := range fields {
			for _, x := range []struct {
				value int
				want  api.Errno
			}{{math.MinInt, api.ErrTimes}, {-1, api.ErrTimes}, {f.lowest - 1, api.ErrTimes}, {f.lowest, api.OK}, {f.highest, api.OK}, {f.highest + 1, api.ErrTimes}, {10001, api.ErrTimes}, {math.MaxInt, api.ErrTimes}} {
				b := with(func(b *api.Building) {
					b.Cars[car].Dwell, b.Cars[car].Hold = 6, 10
					*f.field(&b.Cars[car]) = x.value
				})
				expectValid(t, fmt.Sprintf("%s of car %d is %d", f.name, car, x.value), b, x.want)
			}
		}
	}
}

// P1.1: Dwell and Hold have their own ranges too, when neither is below the other.
func TestValidDwellAndHoldTogether(t *testing.T) {
	for value, want := range map[int]api.Errno{0: api.ErrTimes, 1: api.OK, 10000: api.OK, 10001: api.ErrTimes} {
		b := with(func(b *api.Building) { b.Cars[1].Dwell, b.Cars[1].Hold = value, value })
		expectValid(t, fmt.Sprint("Dwell and Hold ", value), b, want)
	}
}

// P1.1: the thresholds are finite, above 0 and strictly ascending.
func TestValidLoads(t *testing.T) {
	nan, inf, zero := math.NaN(), math.Inf(1), math.Copysign(0, -1)
	for _, x := range []struct {
		empty, full, over float64
		want              api.Errno
	}{
		{0.1, 0.8, 1.1, api.OK}, {1, 2, 3, api.OK},
		{math.SmallestNonzeroFloat64, 0.8, math.MaxFloat64, api.OK},
		{0.8, math.Nextafter(0.8, 1), math.Nextafter(0.8, 1) + 1, api.OK},
		{0, 0.8, 1.1, api.ErrLoads}, {zero, 0.8, 1.1, api.ErrLoads}, {-0.1, 0.8, 1.1, api.ErrLoads},
		{0.8, 0.8, 1.1, api.ErrLoads}, {0.9, 0.8, 1.1, api.ErrLoads}, {0.1, 0, 1.1, api.ErrLoads}, {0.1, -0.8, 1.1, api.ErrLoads},
		{0.1, 1.1, 1.1, api.ErrLoads}, {0.1, 1.2, 1.1, api.ErrLoads}, {0.1, 0.8, 0, api.ErrLoads}, {0.1, 0.8, -1.1, api.ErrLoads},
		{nan, 0.8, 1.1, api.ErrLoads}, {0.1, nan, 1.1, api.ErrLoads}, {0.1, 0.8, nan, api.ErrLoads}, {nan, nan, nan, api.ErrLoads},
		{inf, 0.8, 1.1, api.ErrLoads}, {0.1, inf, 1.1, api.ErrLoads}, {0.1, 0.8, inf, api.ErrLoads}, {0.1, inf, inf, api.ErrLoads}, {inf, inf, inf, api.ErrLoads},
		{-inf, 0.8, 1.1, api.ErrLoads}, {0.1, -inf, 1.1, api.ErrLoads}, {0.1, 0.8, -inf, api.ErrLoads},
	} {
		b := with(func(b *api.Building) { b.Empty, b.Full, b.Over = x.empty, x.full, x.over })
		expectValid(t, fmt.Sprint("loads ", x.empty, x.full, x.over), b, x.want)
	}
}

// P1.1: Room is from 18 * C + 24 to MaxRoom for every number of cars.
func TestValidRoom(t *testing.T) {
	least := []int{0, 42, 60, 78, 96, 114, 132, 150, 168}
	for n := 1; n <= 8; n++ {
		for _, x := range []struct {
			room int
			want api.Errno
		}{{math.MinInt, api.ErrRoom}, {-1, api.ErrRoom}, {0, api.ErrRoom}, {least[n] - 1, api.ErrRoom}, {least[n], api.OK}, {65536, api.OK}, {65537, api.ErrRoom}, {math.MaxInt, api.ErrRoom}} {
			b := withCars(n)
			b.Room = x.room
			expectValid(t, fmt.Sprintf("room %d of %d cars", x.room, n), b, x.want)
		}
	}
}

// P1.1: of several errors, the one that the chapter names first is returned.
func TestValidReturnsTheFirstError(t *testing.T) {
	spoil := []func(b *api.Building){
		func(b *api.Building) { b.Floors = 1 },
		func(b *api.Building) { b.Cars = make([]api.Car, 9) },
		func(b *api.Building) { b.Debounce = 0 },
		func(b *api.Building) { b.Empty = 0 },
		func(b *api.Building) { b.Room = 0 },
	}
	errors := []api.Errno{api.ErrFloors, api.ErrCars, api.ErrTimes, api.ErrLoads, api.ErrRoom}
	for set := 1; set < 1<<len(spoil); set++ {
		b, want := sample(), api.OK
		for i := range spoil {
			if set>>i&1 == 0 {
				continue
			}
			spoil[i](&b)
			if want == api.OK {
				want = errors[i]
			}
		}
		expectValid(t, fmt.Sprintf("errors %05b", set), b, want)
	}
	lastCar := with(func(b *api.Building) { b.Cars[2].Home, b.Full, b.Room = 5, 0, 0 })
	expectValid(t, "the last car, the loads and the room", lastCar, api.ErrTimes)
}

// P1.2: a floor with a direction is a hall call, but not up from the last floor nor down from the first one.
func TestIsCall(t *testing.T) {
	for floors := 2; floors <= 32; floors++ {
		b := with(func(b *api.Building) { b.Floors, b.Cars[1].Home, b.Cars[2].Home = floors, 1, 1 })
		for floor := -2; floor <= 66; floor++ {
			for dir := -1; dir <= 4; dir++ {
				up := dir == api.DirUp && floor >= 0 && floor <= floors-2
				down := dir == api.DirDown && floor >= 1 && floor <= floors-1
				if got := building.IsCall(b, floor, dir); got != (up || down) {
					t.Errorf("IsCall, %d floors, floor %d, direction %d: got %v", floors, floor, dir, got)
				}
			}
		}
	}
}

// P1.2: numbers far outside are no hall calls.
func TestIsCallOfAnyNumbers(t *testing.T) {
	numbers := []int{math.MinInt, math.MinInt + 1, -1 << 32, 1 << 32, 1<<32 + 1, math.MaxInt - 1, math.MaxInt}
	for _, x := range numbers {
		for _, dir := range []int{api.DirUp, api.DirDown} {
			if building.IsCall(sample(), x, dir) {
				t.Errorf("IsCall: floor %d with direction %d is a hall call", x, dir)
			}
		}
		if building.IsCall(sample(), 1, x) {
			t.Errorf("IsCall: floor 1 with direction %d is a hall call", x)
		}
	}
}

// P1.2: Hall has exactly the hall calls.
func TestHall(t *testing.T) {
	for _, x := range []struct {
		floors int
		want   api.Calls
	}{
		{2, api.Calls{Up: 1, Down: 2}},
		{3, api.Calls{Up: 3, Down: 6}},
		{5, api.Calls{Up: 15, Down: 30}},
		{31, api.Calls{Up: 1<<30 - 1, Down: 1<<31 - 2}},
		{32, api.Calls{Up: 1<<31 - 1, Down: 1<<32 - 2}},
	} {
		b := with(func(b *api.Building) { b.Floors, b.Cars[1].Home, b.Cars[2].Home = x.floors, 1, 1 })
		if got := building.Hall(b); got != x.want {
			t.Errorf("Hall, %d floors: got %b, want %b", x.floors, got, x.want)
		}
	}
}

// P1.2: Hall and IsCall agree for every number of floors.
func TestHallIsTheSetOfCalls(t *testing.T) {
	for floors := 2; floors <= 32; floors++ {
		b := with(func(b *api.Building) { b.Floors, b.Cars[1].Home, b.Cars[2].Home = floors, 1, 1 })
		var want api.Calls
		for floor := range 32 {
			if building.IsCall(b, floor, api.DirUp) {
				want.Up |= 1 << floor
			}
			if building.IsCall(b, floor, api.DirDown) {
				want.Down |= 1 << floor
			}
		}
		if got := building.Hall(b); got != want {
			t.Errorf("Hall, %d floors: got %b, want %b", floors, got, want)
		}
	}
}

// P1.2: a building that is not valid has no hall calls.
func TestNoCallsOfAnInvalidBuilding(t *testing.T) {
	for name, b := range invalid() {
		if got := building.Hall(b); got != (api.Calls{}) {
			t.Errorf("Hall, %s: got %b", name, got)
		}
		for floor := range 5 {
			if building.IsCall(b, floor, api.DirUp) || building.IsCall(b, floor, api.DirDown) {
				t.Errorf("IsCall, %s: floor %d has a hall call", name, floor)
			}
		}
	}
}

// P1.3: the chapter's example.
func TestTimesOfTheExample(t *testing.T) {
	b := smallest()
	b.Floors = 3
	b.Cars[0] = api.Car{Deadline: 100, Pulse: 1, Quiet: 1, Step: 4, Travel: 2, Dwell: 1, Hold: 10}
	got := []int{building.Cycle(b.Cars[0]), building.Service(b, 0), building.Bound(b)}
	if want := []int{17, 570, 1716}; !reflect.DeepEqual(got, want) {
		t.Errorf("Cycle, Service and Bound: got %v, want %v", got, want)
	}
}

// P1.3: Cycle depends on Travel and Hold only, and asks for no valid car.
func TestCycle(t *testing.T) {
	for _, x := range []struct {
		car  api.Car
		want int
	}{
		{api.Car{}, 3},
		{api.Car{Travel: 1}, 5},
		{api.Car{Hold: 1}, 4},
		{api.Car{Travel: 10000, Hold: 10000}, 30003},
		{api.Car{Travel: -1, Hold: -5}, -4},
		{api.Car{Deadline: 9, Pulse: 9, Quiet: 9, Slack: 9, Step: 9, Travel: 3, Dwell: 9, Hold: 12, Home: 9}, 21},
	} {
		if got := building.Cycle(x.car); got != x.want {
			t.Errorf("Cycle of %+v: got %d, want %d", x.car, got, x.want)
		}
	}
}

// P1.3: Service of each car, at both ends of all ranges too.
func TestService(t *testing.T) {
	for _, x := range []struct {
		name string
		b    api.Building
		want []int
	}{
		{"the sample", sample(), []int{16 * (3*17 + 4 + 2), 16 * (3*21 + 7 + 2), 16 * (3*16 + 5 + 2)}},
		{"the smallest", smallest(), []int{7 * (3*6 + 1 + 2)}},
		{"the largest", largest(), []int{9701067, 9701067, 9701067, 9701067, 9701067, 9701067, 9701067, 9701067}},
	} {
		for car, want := range x.want {
			if got := building.Service(x.b, car); got != want {
				t.Errorf("Service, %s, car %d: got %d, want %d", x.name, car, got, want)
			}
		}
	}
}

// P1.3: Service of what is no car is 0.
func TestServiceOfNoCar(t *testing.T) {
	for _, car := range []int{math.MinInt, -2, -1, 3, 4, 8, 1 << 32, math.MaxInt} {
		if got := building.Service(sample(), car); got != 0 {
			t.Errorf("Service, car %d: got %d, want 0", car, got)
		}
	}
}

// P1.3: Bound follows the greatest Deadline or Service time, whichever car has it.
func TestBound(t *testing.T) {
	expect := func(what string, b api.Building, want int) {
		t.Helper()
		if got := building.Bound(b); got != want {
			t.Errorf("Bound, %s: got %d, want %d", what, got, want)
		}
	}
	expect("the sample", sample(), 5*(16*72+2))
	expect("the smallest", smallest(), 3*(7*21+2))
	expect("the largest", largest(), 10*(9701067+2))
	for car := range 3 {
		late := with(func(b *api.Building) { b.Cars[car].Deadline = 5000 })
		expect(fmt.Sprint("the longest deadline is that of car ", car), late, 5*5002)
		slow := with(func(b *api.Building) { b.Cars[car].Step = 1000 })
		expect(fmt.Sprint("the slowest car is ", car), slow, 5*(building.Service(slow, car)+2))
	}
	service := building.Service(sample(), 1)
	for more, want := range map[int]int{-1: service, 0: service, 1: service + 1} {
		b := with(func(b *api.Building) { b.Cars[0].Deadline = service + more })
		expect(fmt.Sprint("a deadline beside the service time ", more), b, 5*(want+2))
	}
	for n := 1; n <= 8; n++ {
		b := withCars(n)
		for i := range b.Cars {
			b.Cars[i].Deadline = 3000
		}
		expect(fmt.Sprint("cars ", n), b, (n+2)*3002)
	}
}

// P1.3: a building that is not valid has no times.
func TestNoTimesOfAnInvalidBuilding(t *testing.T) {
	for name, b := range invalid() {
		for car := -1; car <= 3; car++ {
			if got := building.Service(b, car); got != 0 {
				t.Errorf("Service, %s, car %d: got %d, want 0", name, car, got)
			}
		}
		if got := building.Bound(b); got != 0 {
			t.Errorf("Bound, %s: got %d, want 0", name, got)
		}
	}
}

// The chapter's consequence: Bound is greater than every Deadline and every Service time.
func TestBoundIsTheGreatest(t *testing.T) {
	late := with(func(b *api.Building) { b.Cars[2].Deadline = 10000 })
	for k, b := range []api.Building{sample(), smallest(), largest(), late, withCars(1), withCars(8)} {
		bound := building.Bound(b)
		for car, c := range b.Cars {
			if bound <= c.Deadline || bound <= building.Service(b, car) {
				t.Errorf("building %d: the bound %d is not above the times of car %d", k, bound, car)
			}
		}
	}
}

// P1 and R1: numbers of any size make no function panic.
func TestAnyArguments(t *testing.T) {
	for _, x := range []int{math.MinInt, -1, 0, 1, 63, 64, math.MaxInt} {
		c := api.Car{Deadline: x, Pulse: x, Quiet: x, Slack: x, Step: x, Travel: x, Dwell: x, Hold: x, Home: x}
		b := api.Building{Floors: x, Debounce: x, Room: x, Park: x, Empty: float64(x), Full: float64(x), Over: float64(x), Cars: []api.Car{c}}
		building.Cycle(c)
		if building.Valid(b) == api.OK || building.IsCall(b, x, x) || building.Hall(b) != (api.Calls{}) || building.Service(b, x) != 0 || building.Bound(b) != 0 {
			t.Errorf("a building with the numbers %d is not refused", x)
		}
	}
}

// R3 and R5: arguments stay as they are, with the spare capacity of the cars, and the same arguments give the same results.
func TestArgumentsStay(t *testing.T) {
	b := with(func(b *api.Building) { b.Cars = append(make([]api.Car, 0, 8), b.Cars...) })
	spare := b.Cars[:8]
	before := append([]api.Car(nil), spare...)
	results := func() []any {
		return []any{building.Valid(b), building.IsCall(b, 1, api.DirUp), building.Hall(b), building.Cycle(b.Cars[1]), building.Service(b, 1), building.Bound(b)}
	}
	first := results()
	if second := results(); !reflect.DeepEqual(first, second) {
		t.Errorf("the results changed from %v to %v", first, second)
	}
	if !reflect.DeepEqual(spare, before) {
		t.Errorf("the cars changed from %v to %v", before, spare)
	}
}
