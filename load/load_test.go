package load_test

import (
	"fmt"
	"math"
	"math/rand"
	"slices"
	"testing"

	"overlay/api"
	"overlay/building"
	"overlay/load"
)

// plan is a valid building with these thresholds.
func plan(empty, full, over float64) api.Building {
	car := api.Car{Deadline: 100, Pulse: 3, Quiet: 5, Slack: 4, Step: 4, Travel: 2, Dwell: 6, Hold: 10, Home: 1}
	return api.Building{Floors: 4, Debounce: 2, Room: 200, Park: 20, Empty: empty, Full: full, Over: over, Cars: []api.Car{car, car}}
}

// sample is a building whose thresholds have exact float64s.
func sample() api.Building {
	return plan(0.125, 0.75, 1.125)
}

// invalid returns a building for each error, by the name of the error.
func invalid() map[string]api.Building {
	floors, cars, times, room := sample(), sample(), sample(), sample()
	floors.Floors, cars.Cars, times.Cars[1].Hold, room.Room = 33, nil, 5, 59
	return map[string]api.Building{
		"no building": {},
		"ErrFloors":   floors,
		"ErrCars":     cars,
		"ErrTimes":    times,
		"ErrLoads":    plan(0.125, 0.75, math.NaN()),
		"ErrRoom":     room,
	}
}

// nans are numbers that are none: quiet and signalling ones, with and without a sign.
func nans() []float64 {
	return []float64{
		math.NaN(), math.Copysign(math.NaN(), -1), math.Float64frombits(0x7FF0000000000001), math.Float64frombits(0xFFF0000000000001),
		math.Float64frombits(0x7FFFFFFFFFFFFFFF), math.Float64frombits(0xFFFFFFFFFFFFFFFF),
	}
}

func negativeZero() float64 {
	return math.Copysign(0, -1)
}

// samples are loads of all kinds: no numbers, infinities, zeros, the thresholds and their neighbours, and some others.
func samples() []float64 {
	l := append(nans(), math.Inf(1), math.Inf(-1), 0, negativeZero(), math.MaxFloat64, -math.MaxFloat64, math.SmallestNonzeroFloat64, -math.SmallestNonzeroFloat64)
	for _, x := range []float64{0.125, 0.0625, 0.75, 0.6875, 1.125, 1.0625} {
		l = append(l, x, -x, below(x), above(x))
	}
	r := rand.New(rand.NewSource(1))
	for range 100 {
		l = append(l, 1.3*r.Float64(), math.Float64frombits(r.Uint64()))
	}
	return l
}

// below and above are the neighbours of a number.
func below(x float64) float64 {
	return math.Nextafter(x, math.Inf(-1))
}

func above(x float64) float64 {
	return math.Nextafter(x, math.Inf(1))
}

// states are classes that a state may have, and such as no state has.
func states() []int {
	return []int{
		api.LoadUnknown, api.LoadEmpty, api.LoadSome, api.LoadFull, api.LoadOver,
		-1, -2, -3, -4, 5, 6, 7, 8, 9, 256 + 3, 256 + 4, 1<<32 + 3, 1<<32 + 4, math.MaxInt, math.MinInt, math.MinInt + 3, math.MinInt + 4,
	}
}

func expectClass(t *testing.T, b api.Building, x float64, want int) {
	t.Helper()
	if got := load.Class(b, x); got != want {
		t.Errorf("Class of %v with %v, %v, %v: got %d, want %d", x, b.Empty, b.Full, b.Over, got, want)
	}
}

func expectStep(t *testing.T, b api.Building, class int, x float64, want int) {
	t.Helper()
	if got := load.Step(b, api.Loaded{Class: class}, x); got != (api.Loaded{Class: want}) {
		t.Errorf("Step of %v behind class %d with %v, %v, %v: got %+v, want %d", x, class, b.Empty, b.Full, b.Over, got, want)
	}
}

// P6.1: each class from its threshold to the last number below the next one.
func TestClass(t *testing.T) {
	for _, x := range []struct {
		load float64
		want int
	}{
		{0.0625, api.LoadEmpty}, {0.5, api.LoadSome}, {1, api.LoadFull}, {2, api.LoadOver},
		{0, api.LoadEmpty}, {negativeZero(), api.LoadEmpty}, {math.SmallestNonzeroFloat64, api.LoadEmpty}, {below(0.125), api.LoadEmpty},
		{0.125, api.LoadSome}, {above(0.125), api.LoadSome}, {below(0.75), api.LoadSome},
		{0.75, api.LoadFull}, {above(0.75), api.LoadFull}, {below(1.125), api.LoadFull},
		{1.125, api.LoadOver}, {above(1.125), api.LoadOver}, {math.MaxFloat64, api.LoadOver}, {math.Inf(1), api.LoadOver},
		{-math.SmallestNonzeroFloat64, api.LoadUnknown}, {-0.125, api.LoadUnknown}, {-0.5, api.LoadUnknown}, {-1, api.LoadUnknown},
		{-2, api.LoadUnknown}, {-math.MaxFloat64, api.LoadUnknown}, {math.Inf(-1), api.LoadUnknown},
	} {
		expectClass(t, sample(), x.load, x.want)
	}
}

// P6.1: thresholds at the ends of what a building may have, and such as are neighbours.
func TestClassWithOtherThresholds(t *testing.T) {
	const least = math.SmallestNonzeroFloat64
	for _, x := range []struct {
		empty, full, over float64
		loads             []float64
		want              []int
	}{
		{least, 2 * least, 3 * least, []float64{-least, negativeZero(), 0, least, 2 * least, 3 * least, 4 * least, 1}, []int{0, 1, 1, 2, 3, 4, 4, 4}},
		{math.MaxFloat64 / 4, math.MaxFloat64 / 2, math.MaxFloat64, []float64{0, 1, math.MaxFloat64 / 4, math.MaxFloat64 / 2, below(math.MaxFloat64), math.MaxFloat64, math.Inf(1)}, []int{1, 1, 2, 3, 3, 4, 4}},
		{1, above(1), above(above(1)), []float64{0, below(1), 1, above(1), above(above(1)), 2}, []int{1, 1, 2, 3, 4, 4}},
		{0.1, 0.8, 1.1, []float64{0.09, 0.1, 0.79, 0.8, 1.09, 1.1}, []int{1, 2, 2, 3, 3, 4}},
	} {
		for k, want := range x.want {
			expectClass(t, plan(x.empty, x.full, x.over), x.loads[k], want)
		}
	}
}

// P6.1 and P6.2: what is no number is unknown, whatever the state is.
func TestNotANumber(t *testing.T) {
	for _, b := range []api.Building{sample(), plan(0.001, 0.002, 0.003), plan(1e300, 1e301, 1e302)} {
		for _, x := range nans() {
			expectClass(t, b, x, api.LoadUnknown)
			for _, class := range states() {
				expectStep(t, b, class, x, api.LoadUnknown)
			}
		}
	}
}

// P6.2: a state that is full or overloaded stays down to 0.0625 below its threshold, that load included; no other one does.
func TestStep(t *testing.T) {
	for _, x := range []struct {
		class int
		load  float64
		want  int
	}{
		{api.LoadFull, below(0.75), api.LoadFull}, {api.LoadFull, 0.7, api.LoadFull}, {api.LoadFull, 0.6875, api.LoadFull},
		{api.LoadFull, below(0.6875), api.LoadSome}, {api.LoadFull, 0.6, api.LoadSome}, {api.LoadFull, 0.125, api.LoadSome}, {api.LoadFull, 0, api.LoadEmpty},
		{api.LoadFull, 0.75, api.LoadFull}, {api.LoadFull, 1.1, api.LoadFull}, {api.LoadFull, 1.125, api.LoadOver}, {api.LoadFull, math.Inf(1), api.LoadOver},
		{api.LoadFull, -0.1, api.LoadUnknown}, {api.LoadFull, math.Inf(-1), api.LoadUnknown},
		{api.LoadOver, below(1.125), api.LoadOver}, {api.LoadOver, 1.1, api.LoadOver}, {api.LoadOver, 1.0625, api.LoadOver},
		{api.LoadOver, below(1.0625), api.LoadFull}, {api.LoadOver, 0.75, api.LoadFull}, {api.LoadOver, 0.7, api.LoadSome}, {api.LoadOver, 0.6875, api.LoadSome}, {api.LoadOver, 0.1, api.LoadEmpty},
		{api.LoadOver, 1.125, api.LoadOver}, {api.LoadOver, math.Inf(1), api.LoadOver}, {api.LoadOver, -1, api.LoadUnknown},
		{api.LoadSome, 0.7, api.LoadSome}, {api.LoadSome, 0.1, api.LoadEmpty}, {api.LoadSome, below(0.125), api.LoadEmpty}, {api.LoadSome, 1.1, api.LoadFull}, {api.LoadSome, 1.2, api.LoadOver}, {api.LoadSome, -0.01, api.LoadUnknown},
		{api.LoadEmpty, 0.125, api.LoadSome}, {api.LoadEmpty, 0.7, api.LoadSome}, {api.LoadEmpty, 0, api.LoadEmpty}, {api.LoadEmpty, negativeZero(), api.LoadEmpty},
		{api.LoadUnknown, 0.7, api.LoadSome}, {api.LoadUnknown, 0.75, api.LoadFull}, {api.LoadUnknown, 1.1, api.LoadFull}, {api.LoadUnknown, 1.2, api.LoadOver}, {api.LoadUnknown, 0, api.LoadEmpty},
	} {
		expectStep(t, sample(), x.class, x.load, x.want)
	}
}

// P6.2: a class that no state has counts as unknown: it does not stay.
func TestStepOfNoState(t *testing.T) {
	for _, class := range states()[5:] {
		for _, x := range samples() {
			expectStep(t, sample(), class, x, load.Class(sample(), x))
		}
		expectStep(t, sample(), class, 0.7, api.LoadSome)
		expectStep(t, sample(), class, 1.1, api.LoadFull)
	}
}

// grid are thresholds in parts of 1024. A margin of 0.0625 has 64 of them.
type grid struct{ empty, full, over int }

func (g grid) building() api.Building {
	return plan(float64(g.empty)/1024, float64(g.full)/1024, float64(g.over)/1024)
}

// behind is the second way to the class behind a reading: it counts in whole numbers.
func (g grid) behind(class, x int) int {
	least := map[int]int{api.LoadFull: g.full, api.LoadOver: g.over}
	if threshold, ok := least[class]; ok && threshold-64 <= x && 0 <= x && x < threshold {
		return class
	}
	reached := 0
	for _, threshold := range []int{0, g.empty, g.full, g.over} {
		if x >= threshold {
			reached++
		}
	}
	return reached
}

// P6.1, P6.2: all loads of a grid behind all states, also if the thresholds are nearer to each other, or to zero, than 0.0625.
func TestStepOnGrids(t *testing.T) {
	for _, g := range []grid{{128, 768, 1152}, {32, 48, 80}, {1, 2, 3}, {10, 64, 65}, {10, 65, 128}, {700, 730, 760}, {5, 900, 963}, {5, 900, 964}, {5, 900, 965}} {
		b := g.building()
		for x := -100; x <= 1300; x++ {
			expectClass(t, b, float64(x)/1024, g.behind(api.LoadUnknown, x))
			for _, class := range states() {
				expectStep(t, b, class, float64(x)/1024, g.behind(class, x))
			}
		}
	}
}

// P6.2: with a threshold that is not above 0.0625 a full car stays full at any load, but not if the load is below 0.
func TestStepWithLowThresholds(t *testing.T) {
	for _, b := range []api.Building{plan(0.01, 0.02, 0.03), plan(0.01, 0.02, 0.0625), plan(0.01, 0.0625, 0.07)} {
		for _, x := range []float64{0, negativeZero(), math.SmallestNonzeroFloat64, 0.005} {
			expectStep(t, b, api.LoadFull, x, api.LoadFull)
		}
		for _, x := range []float64{-math.SmallestNonzeroFloat64, -0.01, -0.03, math.Inf(-1)} {
			expectStep(t, b, api.LoadFull, x, api.LoadUnknown)
			expectStep(t, b, api.LoadOver, x, api.LoadUnknown)
		}
	}
	expectStep(t, plan(0.01, 0.02, 0.0625), api.LoadOver, 0, api.LoadOver)
	expectStep(t, plan(0.01, 0.0625, 0.07), api.LoadOver, 0, api.LoadEmpty)
}

// P6.2: the difference is that of float64. Half of the distance to the next number is rounded to the even one, which
// lies below a threshold that is odd; and what is added to a load instead would be lost.
func TestStepWithRoundedThresholds(t *testing.T) {
	const even = 1 << 49
	odd := above(even)
	expectStep(t, plan(1, odd, 1e20), api.LoadFull, even, api.LoadFull)
	expectStep(t, plan(1, odd, 1e20), api.LoadFull, below(even), api.LoadSome)
	expectStep(t, plan(1, 2, odd), api.LoadOver, even, api.LoadOver)
	expectStep(t, plan(1, 2, odd), api.LoadOver, below(even), api.LoadFull)
	expectStep(t, plan(1, above(odd), 1e20), api.LoadFull, odd, api.LoadSome)
	expectStep(t, plan(1, 2, above(odd)), api.LoadOver, odd, api.LoadFull)
	expectStep(t, plan(1, 1e20, math.MaxFloat64), api.LoadFull, below(1e20), api.LoadSome)
	expectStep(t, plan(1, 1e20, math.MaxFloat64), api.LoadOver, below(math.MaxFloat64), api.LoadFull)
	expectStep(t, plan(0.1, 0.8, 1.1), api.LoadFull, 0.7375, api.LoadFull)
	expectStep(t, plan(0.1, 0.8, 1.1), api.LoadFull, 0.7374, api.LoadSome)
}

// P6.1, P6.2 and R6: in a building that is not valid every load is unknown.
func TestNoBuilding(t *testing.T) {
	for name, b := range invalid() {
		if building.Valid(b) == api.OK {
			t.Fatalf("%s: the building is valid", name)
		}
		for _, x := range samples() {
			expectClass(t, b, x, api.LoadUnknown)
			for _, class := range states() {
				expectStep(t, b, class, x, api.LoadUnknown)
			}
		}
		if got := load.Run(b, api.Loaded{Class: api.LoadFull}, []float64{0.7, 1.1, math.NaN()}); !slices.Equal(got, []int{0, 0, 0}) {
			t.Errorf("Run, %s: got %v, want three unknown", name, got)
		}
	}
}

func expectRun(t *testing.T, class int, l []float64, want ...int) {
	t.Helper()
	if got := load.Run(sample(), api.Loaded{Class: class}, l); !slices.Equal(got, want) {
		t.Errorf("Run of %v behind class %d: got %v, want %v", l, class, got, want)
	}
}

// P6.3: the chapter's example, and runs that begin in other states.
func TestRun(t *testing.T) {
	nan := math.NaN()
	expectRun(t, api.LoadUnknown, []float64{0.75, 0.7, 0.6875, 0.6}, 3, 3, 3, 2)
	expectRun(t, api.LoadUnknown, []float64{0.7, 0.75, 0.7, 0.6, 0.7, 0.75}, 2, 3, 3, 2, 2, 3)
	expectRun(t, api.LoadFull, []float64{0.7, 0.6, 0.7}, 3, 2, 2)
	expectRun(t, api.LoadOver, []float64{1.1, 1.0625, 1, 1.1, 0.7, 0.6, 0.7}, 4, 4, 3, 3, 3, 2, 2)
	expectRun(t, api.LoadOver, []float64{0.7, 0.7, 0.1, 0}, 2, 2, 1, 1)
	expectRun(t, api.LoadFull, []float64{0.7, nan, 0.7}, 3, 0, 2)
	expectRun(t, api.LoadOver, []float64{1.1, -1, 1.1, 0.7}, 4, 0, 3, 3)
	expectRun(t, api.LoadEmpty, []float64{math.Inf(1), 1.1, math.Inf(-1), negativeZero()}, 4, 4, 0, 1)
	expectRun(t, 9, []float64{0.7}, 2)
	expectRun(t, -1, []float64{1.1, 0.7}, 3, 3)
}

// P6.3: Run is Step for one load after the other, whatever the first state and the loads are.
func TestRunIsSteps(t *testing.T) {
	r := rand.New(rand.NewSource(2))
	for _, class := range states() {
		for size := range 50 {
			l := make([]float64, size)
			for k := range l {
				l[k] = samples()[r.Intn(len(samples()))]
			}
			s, want := api.Loaded{Class: class}, []int{}
			for _, x := range l {
				s = load.Step(sample(), s, x)
				want = append(want, s.Class)
			}
			expectRun(t, class, l, want...)
		}
	}
}

// P6.3 and R4: no loads, whether they are nil or empty, make no classes.
func TestRunOfNoLoads(t *testing.T) {
	for _, none := range [][]float64{nil, {}, make([]float64, 0, 5)} {
		expectRun(t, api.LoadFull, none)
	}
}

// P6.3: MaxTicks loads are allowed; with one more there are no classes.
func TestRunOfManyLoads(t *testing.T) {
	l := slices.Repeat([]float64{0.7}, 5001)
	l[0], l[4999] = 0.75, 0.6
	if got := load.Run(sample(), api.Loaded{}, l[:5000]); len(got) != 5000 || got[0] != 3 || got[4998] != 3 || got[4999] != 2 {
		t.Errorf("Run of 5000 loads: got %d classes", len(got))
	}
	for _, many := range [][]float64{l, make([]float64, 5002), make([]float64, 20000)} {
		for _, b := range []api.Building{sample(), {}} {
			if got := load.Run(b, api.Loaded{Class: 3}, many); len(got) != 0 {
				t.Errorf("Run of %d loads: got %d classes, want none", len(many), len(got))
			}
		}
	}
}

// The chapter's consequence: a load that is not a number makes the class unknown, and the next reading is classed as if
// nothing had been ahead of it.
func TestNotANumberDoesNotLast(t *testing.T) {
	for _, nan := range nans() {
		for _, class := range states() {
			for _, x := range samples() {
				expectRun(t, class, []float64{nan, x}, api.LoadUnknown, load.Class(sample(), x))
			}
		}
	}
}

// The chapter's consequence: a class never rises without a load at its threshold.
func TestClassesRiseAtTheirThresholds(t *testing.T) {
	for _, b := range []api.Building{sample(), plan(0.03, 0.05, 0.08), plan(0.1, 0.8, 1.1), plan(0.7, 0.72, 0.74)} {
		least := map[int]float64{api.LoadEmpty: 0, api.LoadSome: b.Empty, api.LoadFull: b.Full, api.LoadOver: b.Over}
		for class := api.LoadUnknown; class <= api.LoadOver; class++ {
			for _, x := range append(samples(), b.Empty, b.Full, b.Over, below(b.Empty), below(b.Full), below(b.Over)) {
				if got := load.Step(b, api.Loaded{Class: class}, x).Class; got > class && !(x >= least[got]) {
					t.Errorf("Step of %v: the class rises from %d to %d", x, class, got)
				}
			}
		}
	}
}

// R3: loads and cars are neither changed nor kept, nor is the room behind them, and results share nothing.
func TestMemory(t *testing.T) {
	room := []float64{0.75, 0.7, 0.6, 1.2, 1.1, 0.5, 0.5}
	b := sample()
	b.Cars = append(make([]api.Car, 0, 4), b.Cars...)
	cars := slices.Clone(b.Cars[:4])
	before := slices.Clone(room)
	first := load.Run(b, api.Loaded{}, room[:5])
	second := load.Run(b, api.Loaded{}, room[:5])
	if !slices.Equal(room, before) || !slices.Equal(b.Cars[:4], cars) {
		t.Errorf("Run changed its arguments: %v, %+v", room, b.Cars[:4])
	}
	for i := range first[:cap(first)] {
		first[:cap(first)][i] = 9
	}
	clear(room)
	if !slices.Equal(second, []int{3, 3, 2, 4, 4}) {
		t.Errorf("a result shares memory: it is %v", second)
	}
}

// R5: the same arguments give the same results, whatever has been called in between.
func TestSameResults(t *testing.T) {
	results := func() string {
		return fmt.Sprint(load.Class(sample(), 0.7), load.Step(sample(), api.Loaded{Class: 3}, 0.7), load.Step(sample(), api.Loaded{}, 0.7), load.Run(sample(), api.Loaded{Class: 4}, samples()))
	}
	first := results()
	for _, class := range states() {
		load.Run(plan(0.1, 0.2, 0.3), api.Loaded{Class: class}, samples())
		load.Run(api.Building{}, api.Loaded{Class: class}, samples())
	}
	if second := results(); first != second {
		t.Errorf("the results changed from %s to %s", first, second)
	}
}
