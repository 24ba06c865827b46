package store_test

import (
	"fmt"
	"math"
	"strings"
	"testing"

	"overlay/api"
	"overlay/store"
)

// filled is a store with these halves.
func filled(first, second string, half int) api.Store {
	return api.Store{Halves: [2]string{first, second}, Select: half}
}

// sample is a store that needs a room of 5.
func sample() api.Store {
	return filled("one", "zwei\xff", 1)
}

// bytesOfAllKinds are strings with zeros, letters of several bytes, and bytes that are no text.
func bytesOfAllKinds() []string {
	return []string{"", "a", "abc", "\x00", "\x00\x00\x00", "ü", "電梯", "\xff\xfe", "\xc3", "a\x00\x80b\n", "0123456789"}
}

// samples are stores for a room of 20, of all kinds: empty, half full and full, with each half selected.
func samples() []api.Store {
	var l []api.Store
	halves := append(bytesOfAllKinds(), strings.Repeat("x", 19), strings.Repeat("y", 20))
	for i, first := range halves {
		second := halves[(3*i+2)%len(halves)]
		l = append(l, filled(first, second, 0), filled(second, first, 1))
	}
	return l
}

// noHalves are numbers that are not 0 or 1; some of them end in the bits of one.
func noHalves() []int {
	return []int{-1, -2, 2, 3, 7, 255, 256, 257, 1 << 16, 1<<16 + 1, 1 << 32, 1<<32 + 1, math.MaxInt, math.MinInt, math.MinInt + 1}
}

// noRooms are numbers that are not from 1 to MaxRoom.
func noRooms() []int {
	return []int{0, -1, -2, -65536, 65537, 65538, 131072, 1 << 32, 1<<32 + 20, math.MaxInt, math.MinInt, math.MinInt + 20}
}

// noBudgets are numbers below 0.
func noBudgets() []int {
	return []int{-1, -2, -20, -65536, -1 << 32, 5 - 1<<32, math.MinInt, math.MinInt + 5}
}

// result is what a function returns.
type result struct {
	store api.Store
	left  int
	e     api.Errno
}

func of(s api.Store, left int, e api.Errno) result {
	return result{s, left, e}
}

// refused is the result of an error with which all others are zero.
func refused(e api.Errno) result {
	return result{e: e}
}

// short names a string in a message.
func short(s string) string {
	if len(s) > 20 {
		return fmt.Sprintf("%q.. of %d bytes", s[:20], len(s))
	}
	return fmt.Sprintf("%q", s)
}

func (r result) String() string {
	return fmt.Sprintf("{%s, %s, %d}, %d, error %d", short(r.store.Halves[0]), short(r.store.Halves[1]), r.store.Select, r.left, r.e)
}

func expect(t *testing.T, what string, got, want result) {
	t.Helper()
	if got != want {
		t.Errorf("%s: got %v, want %v", what, got, want)
	}
}

// A step is one unit of work. Steps are the second way to what an action does: one unit after the other.
type step func(s api.Store) api.Store

func writing(half int, data string) []step {
	var l []step
	for i := range len(data) {
		l = append(l, func(s api.Store) api.Store {
			s.Halves[half] += data[i : i+1]
			return s
		})
	}
	return l
}

func erasing(half int) []step {
	return []step{func(s api.Store) api.Store {
		if half == 0 {
			return filled("", s.Halves[1], s.Select)
		}
		return filled(s.Halves[0], "", s.Select)
	}}
}

func choosing(half int) []step {
	return []step{func(s api.Store) api.Store { return filled(s.Halves[0], s.Halves[1], half) }}
}

// powered does steps until the power fails.
func powered(s api.Store, budget int, steps ...step) result {
	for _, next := range steps {
		if budget == 0 {
			return result{s, 0, api.ErrPower}
		}
		s, budget = next(s), budget-1
	}
	return result{s, budget, api.OK}
}

func expectIsStore(t *testing.T, room int, s api.Store, want bool) {
	t.Helper()
	if got := store.IsStore(room, s); got != want {
		t.Errorf("IsStore(%d, %v): got %v, want %v", room, of(s, 0, 0), got, want)
	}
}

// P8.1: each half with fewer bytes than room, as many, and more.
func TestIsStore(t *testing.T) {
	for room := 1; room <= 40; room++ {
		for first := range 42 {
			for second := range 42 {
				s := filled(strings.Repeat("a", first), strings.Repeat("b", second), (first+second)%2)
				expectIsStore(t, room, s, first <= room && second <= room)
			}
		}
	}
}

// P8.1: the bytes of the halves count, not their letters.
func TestIsStoreCountsBytes(t *testing.T) {
	for _, half := range append(bytesOfAllKinds(), "zwölf", strings.Repeat("\x00", 9), strings.Repeat("梯", 9)) {
		for room := 1; room <= 30; room++ {
			expectIsStore(t, room, filled(half, "", 0), len(half) <= room)
			expectIsStore(t, room, filled("", half, 0), len(half) <= room)
		}
	}
}

// P8.1: room is from 1 to MaxRoom, also if both halves are empty.
func TestIsStoreRooms(t *testing.T) {
	for _, room := range []int{1, 2, 255, 256, 65535, 65536} {
		expectIsStore(t, room, api.Store{}, true)
		expectIsStore(t, room, filled("a", "b", 1), true)
	}
	for _, room := range noRooms() {
		expectIsStore(t, room, api.Store{}, false)
		expectIsStore(t, room, filled("a", "b", 1), false)
	}
	most := strings.Repeat("x", 65536)
	expectIsStore(t, 65536, filled(most, most, 0), true)
	expectIsStore(t, 65535, filled(most, "", 0), false)
	expectIsStore(t, 65535, filled("", most, 1), false)
	for _, room := range []int{65536, 65537, math.MaxInt} {
		expectIsStore(t, room, filled(most+"x", "", 0), false)
		expectIsStore(t, room, filled("", most+"x", 1), false)
	}
}

// P8.1: Select is 0 or 1.
func TestIsStoreSelect(t *testing.T) {
	expectIsStore(t, 5, filled("one", "two", 0), true)
	expectIsStore(t, 5, filled("one", "two", 1), true)
	for _, half := range noHalves() {
		expectIsStore(t, 5, filled("one", "two", half), false)
		expectIsStore(t, 65536, filled("", "", half), false)
	}
}

// P8.1: half 1 if Select is 1, otherwise half 0, also of what is a store for no room.
func TestCurrent(t *testing.T) {
	for _, first := range append(bytesOfAllKinds(), strings.Repeat("x", 70000)) {
		for _, second := range append(bytesOfAllKinds(), strings.Repeat("y", 70000)) {
			for _, half := range append(noHalves(), 0, 1) {
				want := first
				if half == 1 {
					want = second
				}
				if got := store.Current(filled(first, second, half)); got != want {
					t.Errorf("Current of %v: got %s, want %s", of(filled(first, second, half), 0, 0), short(got), short(want))
				}
			}
		}
	}
}

// P8.2: the chapter's example, and a budget that is too large, just enough, too small, and 0.
func TestWrite(t *testing.T) {
	write := func(half int, data string, budget int) result {
		return of(store.Write(9, sample(), half, data, budget))
	}
	expect(t, "a budget of 2", write(0, "abc", 2), result{filled("oneab", "zwei\xff", 1), 0, api.ErrPower})
	expect(t, "a budget of 5", write(0, "abc", 5), result{filled("oneabc", "zwei\xff", 1), 2, api.OK})
	expect(t, "a budget of 3", write(0, "abc", 3), result{filled("oneabc", "zwei\xff", 1), 0, api.OK})
	expect(t, "a budget of 1", write(0, "abc", 1), result{filled("onea", "zwei\xff", 1), 0, api.ErrPower})
	expect(t, "a budget of 0", write(0, "abc", 0), result{sample(), 0, api.ErrPower})
	expect(t, "the selected half", write(1, "abc", 4), result{filled("one", "zwei\xffabc", 1), 1, api.OK})
	expect(t, "the selected half, cut", write(1, "abc", 2), result{filled("one", "zwei\xffab", 1), 0, api.ErrPower})
	expect(t, "the largest budget", write(0, "abc", math.MaxInt), result{filled("oneabc", "zwei\xff", 1), math.MaxInt - 3, api.OK})
}

// P8.2: no bytes need no power and no room.
func TestWriteNothing(t *testing.T) {
	full := filled("12345", "123", 0)
	for half := range 2 {
		for _, budget := range []int{0, 1, 7, 1 << 32, math.MaxInt} {
			expect(t, "Write of nothing", of(store.Write(5, full, half, "", budget)), result{full, budget, api.OK})
		}
	}
}

// P8.2: data of all kinds into stores of all kinds, byte by byte.
func TestWriteIsBytes(t *testing.T) {
	for _, s := range samples() {
		for _, data := range append(bytesOfAllKinds(), strings.Repeat("z", 20)) {
			for half := range 2 {
				for budget := range 25 {
					want := powered(s, budget, writing(half, data)...)
					if len(s.Halves[half])+len(data) > 20 {
						want = refused(api.ErrFull)
					}
					got := of(store.Write(20, s, half, data, budget))
					expect(t, fmt.Sprintf("Write of %q into half %d of %v with %d", data, half, of(s, 0, 0), budget), got, want)
				}
			}
		}
	}
}

// P8.2: a half may be filled up to its room; with one byte more nothing is written, whatever the budget is. The other
// half does not count.
func TestWriteFull(t *testing.T) {
	s := filled("123", "12345", 0)
	for _, budget := range []int{0, 1, 2, 3, 4, 100, math.MaxInt} {
		for _, data := range []string{"abc", "üa", "abcdef", strings.Repeat("x", 65536), strings.Repeat("x", 1<<20)} {
			expect(t, "Write of too much", of(store.Write(5, s, 0, data, budget)), refused(api.ErrFull))
		}
		expect(t, "Write of a byte into a full half", of(store.Write(5, s, 1, "x", budget)), refused(api.ErrFull))
	}
	expect(t, "Write behind letters of several bytes", of(store.Write(7, filled("電梯", "", 0), 0, "ab", 2)), refused(api.ErrFull))
	expect(t, "Write of the rest", of(store.Write(5, s, 0, "ab", 2)), result{filled("123ab", "12345", 0), 0, api.OK})
	expect(t, "Write of the rest, cut", of(store.Write(5, s, 0, "ab", 1)), result{filled("123a", "12345", 0), 0, api.ErrPower})
}

// P8.2: as many bytes as a half may ever have.
func TestWriteMost(t *testing.T) {
	most := strings.Repeat("0123456789abcdef", 4096)
	expect(t, "all at once", of(store.Write(65536, api.Store{}, 1, most, 70000)), result{filled("", most, 0), 4464, api.OK})
	expect(t, "all but one", of(store.Write(65536, api.Store{}, 0, most, 65535)), result{filled(most[:65535], "", 0), 0, api.ErrPower})
	expect(t, "the last one", of(store.Write(65536, filled(most[:65535], most, 1), 0, "f", 1)), result{filled(most, most, 1), 0, api.OK})
	expect(t, "one more", of(store.Write(65536, filled(most, "", 1), 0, "f", 1)), refused(api.ErrFull))
	expect(t, "one more than there is room", of(store.Write(65535, api.Store{}, 0, most, 1<<20)), refused(api.ErrFull))
}

// P8.3: one half becomes empty, also if it is empty, and the other one and Select stay.
func TestErase(t *testing.T) {
	erase := func(half, budget int) result { return of(store.Erase(5, sample(), half, budget)) }
	expect(t, "half 0", erase(0, 5), result{filled("", "zwei\xff", 1), 4, api.OK})
	expect(t, "half 1", erase(1, 1), result{filled("one", "", 1), 0, api.OK})
	expect(t, "without power", erase(1, 0), result{sample(), 0, api.ErrPower})
	expect(t, "the largest budget", erase(0, math.MaxInt), result{filled("", "zwei\xff", 1), math.MaxInt - 1, api.OK})
	expect(t, "an empty half", of(store.Erase(1, api.Store{}, 1, 2)), result{api.Store{}, 1, api.OK})
	expect(t, "an empty half without power", of(store.Erase(1, api.Store{}, 1, 0)), result{api.Store{}, 0, api.ErrPower})
	for _, s := range samples() {
		for half := range 2 {
			for budget := range 4 {
				expect(t, fmt.Sprintf("Erase half %d with %d", half, budget), of(store.Erase(20, s, half, budget)), powered(s, budget, erasing(half)...))
			}
		}
	}
}

// P8.3: Select becomes half, also if it is that, and both halves stay.
func TestChoose(t *testing.T) {
	choose := func(half, budget int) result { return of(store.Choose(5, sample(), half, budget)) }
	expect(t, "half 0", choose(0, 5), result{filled("one", "zwei\xff", 0), 4, api.OK})
	expect(t, "half 0 with the last unit", choose(0, 1), result{filled("one", "zwei\xff", 0), 0, api.OK})
	expect(t, "half 0 without power", choose(0, 0), result{sample(), 0, api.ErrPower})
	expect(t, "half 1, which is selected", choose(1, 3), result{sample(), 2, api.OK})
	expect(t, "half 1 without power", choose(1, 0), result{sample(), 0, api.ErrPower})
	expect(t, "the largest budget", choose(0, math.MaxInt), result{filled("one", "zwei\xff", 0), math.MaxInt - 1, api.OK})
	for _, s := range samples() {
		for half := range 2 {
			for budget := range 4 {
				expect(t, fmt.Sprintf("Choose half %d with %d", half, budget), of(store.Choose(20, s, half, budget)), powered(s, budget, choosing(half)...))
			}
		}
	}
}

// action is a call of one of the three functions that change a store.
type action struct {
	name string
	do   func(room int, s api.Store, half, budget int) result
}

func actions() []action {
	l := []action{
		{"Erase", func(room int, s api.Store, half, budget int) result { return of(store.Erase(room, s, half, budget)) }},
		{"Choose", func(room int, s api.Store, half, budget int) result { return of(store.Choose(room, s, half, budget)) }},
	}
	for _, data := range []string{"", "x", "more than there is room for"} {
		l = append(l, action{fmt.Sprintf("Write of %q", data), func(room int, s api.Store, half, budget int) result {
			return of(store.Write(room, s, half, data, budget))
		}})
	}
	return l
}

func expectAll(t *testing.T, room int, s api.Store, half, budget int, want result) {
	t.Helper()
	for _, a := range actions() {
		what := fmt.Sprintf("%s, room %d, %v, half %d, budget %d", a.name, room, of(s, 0, 0), half, budget)
		expect(t, what, a.do(room, s, half, budget), want)
	}
}

// P8.2, P8.3: what is not a store for room is refused ahead of all that is wrong besides.
func TestNoStore(t *testing.T) {
	for _, half := range append(noHalves(), 0, 1) {
		for _, budget := range append(noBudgets(), 0, 1, 100) {
			for _, room := range noRooms() {
				expectAll(t, room, api.Store{}, half, budget, refused(api.ErrArg))
			}
			for _, other := range noHalves() {
				expectAll(t, 5, filled("one", "two", other), half, budget, refused(api.ErrArg))
			}
			expectAll(t, 4, filled("12345", "", 0), half, budget, refused(api.ErrArg))
			expectAll(t, 4, filled("", "12345", 0), half, budget, refused(api.ErrArg))
		}
	}
}

// P8.2, P8.3: another half, and a budget below 0, are refused ahead of a lack of room and power.
func TestOutOfRange(t *testing.T) {
	for _, s := range []api.Store{sample(), {}, filled("12345", "12345", 0)} {
		for _, half := range noHalves() {
			for _, budget := range append(noBudgets(), 0, 1, 100) {
				expectAll(t, 5, s, half, budget, refused(api.ErrRange))
			}
		}
		for _, budget := range noBudgets() {
			expectAll(t, 5, s, 0, budget, refused(api.ErrRange))
			expectAll(t, 5, s, 1, budget, refused(api.ErrRange))
		}
	}
}

// The chapter's consequence: writing in two parts with one budget is writing in one, wherever data is parted and the
// power fails. This is about data for which there is room: without it one Write writes nothing.
func TestTwoParts(t *testing.T) {
	for _, s := range samples() {
		for _, data := range bytesOfAllKinds() {
			for half := range 2 {
				if len(s.Halves[half])+len(data) > 20 {
					continue
				}
				for cut := range len(data) + 1 {
					for budget := range len(data) + 3 {
						got := of(store.Write(20, s, half, data[:cut], budget))
						if got.e == api.OK {
							got = of(store.Write(20, got.store, half, data[cut:], got.left))
						}
						expect(t, fmt.Sprintf("Write of %q in two parts, %d and the rest, with %d", data, cut, budget), got, of(store.Write(20, s, half, data, budget)))
					}
				}
			}
		}
	}
}

// The chapter's consequence: a write that is cut leaves a prefix of its bytes behind those that were there, and the
// rest of them, written when there is power again, makes it whole.
func TestCutWrites(t *testing.T) {
	const data = "abc\x00ü梯\xff"
	whole := of(store.Write(20, sample(), 0, data, len(data)))
	for budget := range len(data) {
		cut := of(store.Write(20, sample(), 0, data, budget))
		expect(t, fmt.Sprintf("a write cut behind %d bytes", budget), cut, result{filled("one"+data[:budget], "zwei\xff", 1), 0, api.ErrPower})
		expect(t, "the rest", of(store.Write(20, cut.store, 0, data[budget:], len(data)-budget)), whole)
	}
}

// Three actions, each with the budget that the one before has left, are cut behind any unit. Until the last one is done
// the half that counts is as it was.
func TestBudgetsAreHandedOn(t *testing.T) {
	const data = "new half"
	for _, s := range samples() {
		other := 1 - s.Select
		steps := append(append(erasing(other), writing(other, data)...), choosing(other)...)
		for budget := range len(steps) + 3 {
			got := of(store.Erase(20, s, other, budget))
			if got.e == api.OK {
				got = of(store.Write(20, got.store, other, data, got.left))
			}
			if got.e == api.OK {
				got = of(store.Choose(20, got.store, other, got.left))
			}
			expect(t, fmt.Sprintf("three actions with %d", budget), got, powered(s, budget, steps...))
			want := store.Current(s)
			if budget >= len(steps) {
				want = data
			}
			if current := store.Current(got.store); current != want {
				t.Errorf("three actions with %d: the current half is %s, want %s", budget, short(current), short(want))
			}
		}
	}
}

// R3: what goes on with a store changes neither it nor what else has been made of it.
func TestResultsShareNothing(t *testing.T) {
	s := of(store.Write(20, api.Store{}, 0, "begin", 5)).store
	first := of(store.Write(20, s, 0, " first", 9))
	second := of(store.Write(20, s, 0, " second", 9))
	erased := of(store.Erase(20, s, 0, 1))
	chosen := of(store.Choose(20, s, 1, 1))
	if want := filled("begin", "", 0); s != want {
		t.Errorf("the store has changed: %v", of(s, 0, 0))
	}
	expect(t, "the first store", first, result{filled("begin first", "", 0), 3, api.OK})
	expect(t, "the second store", second, result{filled("begin second", "", 0), 2, api.OK})
	expect(t, "the erased store", erased, result{filled("", "", 0), 0, api.OK})
	expect(t, "the store with another half chosen", chosen, result{filled("begin", "", 1), 0, api.OK})
}

// R5: the same arguments give the same results, whatever has been called in between.
func TestSameResults(t *testing.T) {
	results := func() string {
		l := []any{store.IsStore(5, sample()), store.IsStore(4, sample()), store.Current(sample())}
		for _, a := range actions() {
			l = append(l, a.do(30, sample(), 0, 1), a.do(30, sample(), 1, 0), a.do(30, sample(), 1, 40), a.do(5, sample(), 2, 40))
		}
		return fmt.Sprint(l...)
	}
	first := results()
	for _, s := range samples() {
		for _, a := range actions() {
			a.do(20, s, 0, 3)
			a.do(20, s, 1, 100)
			a.do(1, s, 0, -1)
		}
	}
	if second := results(); first != second {
		t.Errorf("the results changed from %s to %s", first, second)
	}
}
