package park_test

import (
	"math"
	"slices"
	"testing"

	"overlay/api"
	"overlay/park"
)

const none, up, down = api.CmdNone, api.CmdUp, api.CmdDown

// plan is a building with so many floors, whose cars have these Homes. Its times differ from its Park, and would make a
// difference if they were taken for it.
func plan(floors, ticks int, homes ...int) api.Building {
	b := api.Building{Floors: floors, Debounce: 2, Room: 200, Park: ticks, Empty: 0.125, Full: 0.75, Over: 1.125}
	for car, home := range homes {
		b.Cars = append(b.Cars, api.Car{Deadline: 70, Pulse: 71, Quiet: 72, Slack: 73, Step: 74, Travel: 75, Dwell: 76, Hold: 77 + car, Home: home})
	}
	return b
}

// noBuildings are plans with six floors, Park 20 and cars with the Homes 2 and 4 that are not valid: each has one value
// that none has.
func noBuildings() []api.Building {
	changes := []func(b *api.Building){
		func(b *api.Building) { b.Floors = 33 },
		func(b *api.Building) { b.Floors = 1 },
		func(b *api.Building) { b.Floors = 0 },
		func(b *api.Building) { b.Floors = -6 },
		func(b *api.Building) { b.Floors = math.MaxInt },
		func(b *api.Building) { b.Floors = math.MinInt },
		func(b *api.Building) { b.Floors = 4 }, // then Home 4 is no floor
		func(b *api.Building) { b.Cars = nil },
		func(b *api.Building) { b.Cars = []api.Car{} },
		func(b *api.Building) { b.Cars = slices.Repeat(b.Cars[:1], 9) },
		func(b *api.Building) { b.Debounce = 0 },
		func(b *api.Building) { b.Debounce = 17 },
		func(b *api.Building) { b.Park = 0 },
		func(b *api.Building) { b.Park = -1 },
		func(b *api.Building) { b.Park = math.MinInt },
		func(b *api.Building) { b.Park = 10001 },
		func(b *api.Building) { b.Cars[1].Home = 6 },
		func(b *api.Building) { b.Cars[1].Home = -1 },
		func(b *api.Building) { b.Cars[0].Home = math.MaxInt },
		func(b *api.Building) { b.Cars[0].Deadline = 0 },
		func(b *api.Building) { b.Cars[1].Step = 10001 },
		func(b *api.Building) { b.Cars[1].Hold = 75 }, // below Dwell
		func(b *api.Building) { b.Empty = 0.75 },
		func(b *api.Building) { b.Full = math.NaN() },
		func(b *api.Building) { b.Over = math.Inf(1) },
		func(b *api.Building) { b.Room = 59 },
		func(b *api.Building) { b.Room = 65537 },
	}
	l := []api.Building{{}}
	for _, change := range changes {
		b := plan(6, 20, 2, 4)
		change(&b)
		l = append(l, b)
	}
	return l
}

// outside are numbers that number none of so many things.
func outside(count int) []int {
	return []int{-1, -2, -count, -256, count, count + 1, 32, 33, 64, 256, 256 + 1, 1 << 32, 1<<32 + 1, math.MaxInt, math.MaxInt - 1, math.MinInt, math.MinInt + 1}
}

// sentence is an example of what P14.1 says.
type sentence struct{ car, idle, floor, want int }

func expectMoves(t *testing.T, b api.Building, l []sentence) {
	t.Helper()
	for _, x := range l {
		if got := park.Move(b, x.car, x.idle, x.floor); got != x.want {
			t.Errorf("%d floors, Park %d, Move of %+v: got %d", b.Floors, b.Park, x, got)
		}
	}
}

// P14.1: a car that has been idle for Park ticks and more goes to its own Home, and stays there.
func TestTowardsHome(t *testing.T) {
	b := plan(6, 20, 2, 4, 0, 5)
	for _, idle := range []int{20, 21, 70, 73, 77, 9999, 10000, 10001, api.MaxCount, api.MaxCount + 1, 1 << 32, math.MaxInt} {
		expectMoves(t, b, []sentence{
			{0, idle, 0, up}, {0, idle, 1, up}, {0, idle, 2, none}, {0, idle, 3, down}, {0, idle, 4, down}, {0, idle, 5, down},
			{1, idle, 0, up}, {1, idle, 1, up}, {1, idle, 2, up}, {1, idle, 3, up}, {1, idle, 4, none}, {1, idle, 5, down},
			{2, idle, 0, none}, {2, idle, 1, down}, {2, idle, 2, down}, {2, idle, 5, down},
			{3, idle, 0, up}, {3, idle, 3, up}, {3, idle, 4, up}, {3, idle, 5, none},
		})
	}
}

// P14.1: a car that has been idle for fewer ticks stays where it is.
func TestNotIdleForLong(t *testing.T) {
	b := plan(6, 20, 2, 4, 0, 5)
	for _, idle := range []int{19, 18, 10, 2, 1, 0, -1, -19, -20, -21, -10000, -(1 << 32), -(1 << 32) + 20, math.MinInt, math.MinInt + 20} {
		for car := range b.Cars {
			for floor := range b.Floors {
				expectMoves(t, b, []sentence{{car, idle, floor, none}})
			}
		}
	}
}

// P14.1: the least and the greatest Park; a tick makes the difference.
func TestParkIsInclusive(t *testing.T) {
	for _, ticks := range []int{1, 2, 3, 20, 255, 256, 257, 9999, 10000} {
		b := plan(32, ticks, 31, 0, 16)
		expectMoves(t, b, []sentence{
			{0, ticks - 1, 0, none}, {1, ticks - 1, 31, none}, {2, ticks - 1, 15, none}, {2, ticks - 1, 17, none},
			{0, ticks, 0, up}, {1, ticks, 31, down}, {2, ticks, 15, up}, {2, ticks, 17, down}, {2, ticks, 16, none},
			{0, ticks + 1, 30, up}, {1, ticks + 1, 1, down}, {0, ticks + 1, 31, none}, {1, ticks + 1, 0, none},
		})
	}
}

// P14.1: cars and floors that the building does not have.
func TestMoveOfOthers(t *testing.T) {
	b := plan(6, 20, 2, 4, 0)
	for _, idle := range []int{0, 19, 20, 21, math.MaxInt} {
		for _, car := range outside(len(b.Cars)) {
			for _, floor := range []int{0, 2, 3, 5, 6, -1} {
				expectMoves(t, b, []sentence{{car, idle, floor, none}})
			}
		}
		for _, floor := range outside(b.Floors) {
			expectMoves(t, b, []sentence{{0, idle, floor, none}, {1, idle, floor, none}, {2, idle, floor, none}})
		}
	}
}

// P14.1: the number of a car is below the number of cars, and a floor below the number of floors, also at the limits.
func TestMoveAtTheLimits(t *testing.T) {
	small, large := plan(2, 1, 1), plan(32, 10000, 31, 31, 31, 31, 31, 31, 31, 31)
	expectMoves(t, small, []sentence{{0, 1, 0, up}, {0, 1, 1, none}, {0, 1, 2, none}, {0, 1, -1, none}, {1, 1, 0, none}, {-1, 1, 0, none}})
	expectMoves(t, large, []sentence{{7, 10000, 0, up}, {7, 10000, 30, up}, {7, 10000, 31, none}, {7, 10000, 32, none}, {8, 10000, 0, none}})
	large.Cars[7].Home = 0
	expectMoves(t, large, []sentence{{7, 10000, 31, down}, {7, 10000, 32, none}, {7, 10000, -1, none}, {6, 10000, 0, up}})
}

// P14.1 and P14.2: what is no building.
func TestNoBuilding(t *testing.T) {
	for number, b := range noBuildings() {
		for car := -1; car <= len(b.Cars); car++ {
			for floor := -1; floor <= 6; floor++ {
				for _, idle := range []int{19, 20, 10001, math.MaxInt} {
					expectMoves(t, b, []sentence{{car, idle, floor, none}})
				}
			}
		}
		if got := park.Spread(b); len(got) != 0 {
			t.Errorf("no building %d, Spread: got %d", number, got)
		}
	}
}

// P14.2: examples, worked out by hand.
func TestSpread(t *testing.T) {
	for _, x := range []struct {
		floors, cars int
		want         []int
	}{
		{2, 1, []int{1}},
		{3, 1, []int{1}},
		{9, 1, []int{4}},
		{31, 1, []int{15}},
		{32, 1, []int{16}},
		{2, 2, []int{0, 1}},
		{3, 2, []int{0, 2}},
		{4, 2, []int{1, 3}},
		{5, 2, []int{1, 3}},
		{32, 2, []int{8, 24}},
		{2, 3, []int{0, 1, 1}},
		{4, 3, []int{0, 2, 3}},
		{10, 3, []int{1, 5, 8}},
		{32, 3, []int{5, 16, 26}},
		{6, 4, []int{0, 2, 3, 5}},
		{31, 5, []int{3, 9, 15, 21, 27}},
		{2, 7, []int{0, 0, 0, 1, 1, 1, 1}},
		{2, 8, []int{0, 0, 0, 0, 1, 1, 1, 1}},
		{8, 8, []int{0, 1, 2, 3, 4, 5, 6, 7}},
		{31, 8, []int{1, 5, 9, 13, 17, 21, 25, 29}},
		{32, 8, []int{2, 6, 10, 14, 18, 22, 26, 30}},
	} {
		b := plan(x.floors, 5, make([]int, x.cars)...)
		if got := park.Spread(b); !slices.Equal(got, x.want) {
			t.Errorf("%d floors, %d cars: got %d, want %d", x.floors, x.cars, got, x.want)
		}
	}
}

// P14.2: what is proposed does not depend on the Homes that the cars have, nor on anything else of them.
func TestSpreadOfOtherHomes(t *testing.T) {
	want := []int{1, 4, 7}
	for home := range 9 {
		for ticks := 1; ticks <= 10000; ticks *= 10 {
			b := plan(9, ticks, 8-home, home, home)
			b.Debounce, b.Room, b.Over = 16, 65536, 100
			if got := park.Spread(b); !slices.Equal(got, want) {
				t.Errorf("Home %d, Park %d: got %d", home, ticks, got)
			}
		}
	}
}

// No argument is changed, and a result is new memory.
func TestMemory(t *testing.T) {
	b, kept := plan(9, 20, 2, 8), plan(9, 20, 2, 8)
	first, second := park.Spread(b), park.Spread(b)
	park.Move(b, 1, 20, 3)
	if !slices.Equal(b.Cars, kept.Cars) {
		t.Errorf("the cars are changed: %+v", b.Cars)
	}
	for car := range first {
		first[car] = 100
	}
	if !slices.Equal(second, []int{2, 6}) || !slices.Equal(park.Spread(b), []int{2, 6}) {
		t.Errorf("two results share memory: %d", second)
	}
}
