package log_test

import (
	"fmt"
	"math"
	"strings"
	"testing"

	"overlay/api"
	"overlay/log"
)

// result is what Append, Compact and Recover return; Compact returns no image.
type result struct {
	s    api.Store
	m    api.Image
	left int
	e    api.Errno
}

func appended(b api.Building, s api.Store, m api.Image, r api.Record, budget int) result {
	s, m, left, e := log.Append(b, s, m, r, budget)
	return result{s, m, left, e}
}

func compacted(b api.Building, s api.Store, m api.Image, budget int) result {
	s, left, e := log.Compact(b, s, m, budget)
	return result{s: s, left: left, e: e}
}

func recovered(b api.Building, s api.Store, budget int) result {
	s, m, left, e := log.Recover(b, s, budget)
	return result{s, m, left, e}
}

func (x result) String() string {
	return fmt.Sprintf("%x %x, half %d, %+v, %d left, error %d", x.s.Halves[0], x.s.Halves[1], x.s.Select, x.m, x.left, x.e)
}

func refused(e api.Errno) result { return result{e: e} }

func expect(t *testing.T, what string, got, want result) {
	t.Helper()
	if got.String() != want.String() {
		t.Errorf("%s: got %v, want %v", what, got, want)
	}
}

// unit is an action of one unit of work.
type unit func(s *api.Store)

func writing(half int, data string) []unit {
	var l []unit
	for i := range len(data) {
		l = append(l, func(s *api.Store) { s.Halves[half] += data[i : i+1] })
	}
	return l
}

// powered does actions until the power fails.
func powered(s api.Store, budget int, units []unit) result {
	for _, do := range units {
		if budget == 0 {
			return result{s: s, e: api.ErrPower}
		}
		do(&s)
		budget--
	}
	return result{s: s, left: budget}
}

// compaction is what Compact returns for arguments that are allowed, by the chapter.
func compaction(b api.Building, s api.Store, m api.Image, budget int) result {
	other, data := 1-s.Select, written(b, snapshot(m)...)
	erasing := []unit{func(s *api.Store) { s.Halves[other] = "" }}
	if budget > 0 && len(data) > b.Room {
		return refused(api.ErrFull)
	}
	units := append(erasing, writing(other, data)...)
	return powered(s, budget, append(units, func(s *api.Store) { s.Select = other }))
}

// appending is what Append returns for arguments that are allowed, by the chapter.
func appending(b api.Building, s api.Store, m api.Image, r api.Record, budget int) result {
	next := behind(b, m, r)
	if len(next.Entries) > len(m.Entries) && 18*(len(b.Cars)+len(m.Entries)+1)+6 > b.Room {
		return refused(api.ErrFull)
	}
	x := compaction(b, s, next, budget)
	if len(s.Halves[s.Select])+6 <= b.Room {
		x = powered(s, budget, writing(s.Select, written(b, r)))
	}
	switch x.e {
	case api.OK:
		x.m = next
	case api.ErrPower:
		x.m = m
	}
	return x
}

// recovery is what Recover returns for arguments that are allowed, if m is what is found.
func recovery(b api.Building, s api.Store, m api.Image, budget int) result {
	x := compaction(b, s, m, budget)
	if x.e == api.OK {
		x.m = m
	}
	return x
}

// noStores are stores for no building with the Room of b.
func noStores(b api.Building) []api.Store {
	l := []api.Store{found(0, strings.Repeat("x", b.Room+1), ""), found(1, strings.Repeat("x", b.Room+1), ""), found(0, "", strings.Repeat("x", b.Room+1)), found(1, "", strings.Repeat("x", 70000))}
	for _, half := range []int{-1, 2, 3, 1 << 32, math.MinInt, math.MaxInt} {
		l = append(l, api.Store{Select: half})
	}
	return l
}

func noBudgets() []int { return []int{-1, -2, -6, -1 << 32, math.MinInt} }

// P10.5: an empty store, one with something in both halves, and the first budgets that are enough and that are not.
func TestCompact(t *testing.T) {
	b := house(4, 2)
	m := image(2, entry(2, 1, 1))
	lines := written(b, snapshot(m)...)
	if len(lines) != 54 {
		t.Fatalf("the snapshot has %d bytes", len(lines))
	}
	expect(t, "an empty store", compacted(b, api.Store{}, m, 60), result{s: found(1, lines, ""), left: 4})
	expect(t, "half 1 counts", compacted(b, found(1, "current", "old"), m, 56), result{s: found(0, lines, "current"), left: 0})
	expect(t, "half 0 counts", compacted(b, found(0, "current", "old"), m, math.MaxInt), result{s: found(1, lines, "current"), left: math.MaxInt - 56})
	expect(t, "not chosen", compacted(b, found(0, "current", "old"), m, 55), result{s: found(0, "current", lines), e: api.ErrPower})
	expect(t, "not written", compacted(b, found(0, "current", "old"), m, 54), result{s: found(0, "current", lines[:53]), e: api.ErrPower})
	expect(t, "erased only", compacted(b, found(1, "current", "old"), m, 1), result{s: found(1, "current", ""), e: api.ErrPower})
	expect(t, "no power", compacted(b, found(1, "current", "old"), m, 0), result{s: found(1, "current", "old"), e: api.ErrPower})
}

// P10.5: stores of all kinds, cut behind any unit.
func TestCompactCut(t *testing.T) {
	for _, b := range []api.Building{house(2, 1), house(4, 2), house(9, 3)} {
		for i, m := range images(b) {
			s := []api.Store{{}, found(1, "current", ""), found(0, written(b, snapshot(m)...), "junk"), found(1, "", strings.Repeat("x", b.Room)), found(0, strings.Repeat("y", b.Room), written(b, register(0, 1)))}[i%5]
			for budget := range 18*(len(m.Phases)+len(m.Entries)) + 5 {
				expect(t, fmt.Sprint("Compact with ", budget), compacted(b, s, m, budget), compaction(b, s, m, budget))
			}
		}
	}
}

// P10.5: a snapshot with exactly as many bytes as there is room for, and one with more: ErrFull, but without power for
// the erasing that comes first.
func TestCompactFull(t *testing.T) {
	b := house(4, 2)
	for n := 2; n <= 6; n++ {
		m := everyCall(b)
		m.Entries = m.Entries[:n]
		need := 18 * (2 + n)
		s := found(1, written(b, snapshot(image(2))...), "other")
		for _, room := range []int{need - 1, need, need + 1} {
			if room < 60 {
				continue
			}
			for _, budget := range []int{0, 1, 2, need, need + 1, need + 2, need + 3, math.MaxInt} {
				expect(t, fmt.Sprint("Compact with room ", room), compacted(roomy(b, room), s, m, budget), compaction(roomy(b, room), s, m, budget))
			}
		}
		if need > 60 {
			expect(t, "Compact without room", compacted(roomy(b, need-1), s, m, 1), refused(api.ErrFull))
			expect(t, "Compact without room and power", compacted(roomy(b, need-1), s, m, 0), result{s: s, e: api.ErrPower})
		}
	}
}

// P10.5: ErrArg, whatever else is wrong.
func TestCompactErrors(t *testing.T) {
	b := roomy(house(4, 2), 60)
	good, full := image(2), everyCall(b)
	for _, m := range []api.Image{good, full} {
		for _, budget := range noBudgets() {
			expect(t, "no budget", compacted(b, api.Store{}, m, budget), refused(api.ErrArg))
		}
		for _, s := range noStores(b) {
			for _, budget := range append(noBudgets(), 0, 1, 500) {
				expect(t, "no store", compacted(b, s, m, budget), refused(api.ErrArg))
			}
		}
	}
	for what, m := range noImages() {
		for _, budget := range append(noBudgets(), 0, 1, 500) {
			expect(t, what, compacted(b, api.Store{}, m, budget), refused(api.ErrArg))
			expect(t, what, compacted(b, api.Store{Select: 2}, m, budget), refused(api.ErrArg))
		}
	}
	for what, x := range noHouses() {
		for _, m := range []api.Image{{}, image(len(x.Cars))} {
			for _, budget := range []int{-1, 0, 500} {
				expect(t, what, compacted(x, api.Store{}, m, budget), refused(api.ErrArg))
			}
		}
	}
}

// P10.6: a record behind those of the current half; the other half stays.
func TestAppend(t *testing.T) {
	b := house(4, 2)
	first, second := written(b, register(2, 1)), written(b, assign(2, 1, 1))
	for half := range 2 {
		x := appended(b, found(half, "", "old"), log.Initial(b), register(2, 1), 10)
		expect(t, "the first record", x, result{found(half, first, "old"), image(2, entry(2, 1, -1)), 4, api.OK})
		y := appended(b, x.s, x.m, assign(2, 1, 1), 6)
		expect(t, "the second record", y, result{found(half, first+second, "old"), image(2, entry(2, 1, 1)), 0, api.OK})
		expect(t, "a record cut", appended(b, x.s, x.m, assign(2, 1, 1), 5), result{found(half, first+second[:5], "old"), x.m, 0, api.ErrPower})
		expect(t, "a record cut off", appended(b, x.s, x.m, assign(2, 1, 1), 0), result{x.s, x.m, 0, api.ErrPower})
		expect(t, "the largest budget", appended(b, x.s, x.m, served(2, 1), math.MaxInt), result{found(half, first+written(b, served(2, 1)), "old"), image(2), math.MaxInt - 6, api.OK})
	}
}

// P10.6: also a record that changes nothing is written.
func TestAppendNothing(t *testing.T) {
	b := house(4, 2)
	m := image(2, entry(2, 1, 1))
	for _, r := range []api.Record{register(2, 1), served(1, 1), assign(2, 1, 1), assign(1, 1, 0), flag(0, 0), {Kind: 4, Car: 1}, {Kind: 6}, {Kind: 7, Floor: 2, Dir: 1}, {Kind: 7, Floor: 3, Dir: 2, Car: 1, Value: 2}} {
		expect(t, text(r), appended(b, found(1, "ab", ""), m, r, 7), result{found(1, "ab"+written(b, r), ""), m, 1, api.OK})
	}
}

// P10.6: all valid records, each cut behind any unit, into halves with room for them, for them only, and for less.
func TestAppendAnything(t *testing.T) {
	for _, b := range []api.Building{roomy(house(2, 1), 42), roomy(house(3, 1), 66), roomy(house(4, 2), 120)} {
		for i, m := range images(b) {
			if 18*(len(m.Phases)+len(m.Entries))+6 > b.Room {
				continue
			}
			for k, r := range valid(b) {
				used := b.Room - []int{b.Room, 7, 6, 5, 1, 0}[(i+k)%6]
				s := found(k%2, strings.Repeat("x", used), "other")
				for _, budget := range []int{0, 1, 2, 5, 6, 7, 36, 37, 38, 39, 40, 54, 55, 56, 57, 58, 72, 73, 74, 75, 90, 91, 92, 93, 110, 200} {
					expect(t, fmt.Sprintf("Append of %+v with %d to %d bytes", r, budget, used), appended(b, s, m, r, budget), appending(b, s, m, r, budget))
				}
			}
		}
	}
}

// P10.6: a record that has no room starts a snapshot of the image behind it in the other half, cut behind any unit.
func TestAppendCompacts(t *testing.T) {
	b := roomy(house(4, 2), 78)
	m := image(2, entry(0, 1, 1), entry(1, 1, -2))
	next := image(2, entry(0, 1, 1))
	for _, room := range []int{0, 1, 5} {
		s := found(1, strings.Repeat("x", 78-room), strings.Repeat("y", 78))
		expect(t, "served", appended(b, s, m, served(1, 1), 60), result{found(0, written(b, snapshot(next)...), s.Halves[1]), next, 4, api.OK})
		for budget := range 60 {
			x := appended(b, s, m, served(1, 1), budget)
			expect(t, fmt.Sprint("served with ", budget), x, appending(b, s, m, served(1, 1), budget))
			if budget < 56 && (x.e != api.ErrPower || text(x.m) != text(m) || x.s.Halves[1] != s.Halves[1] || x.s.Select != 1) {
				t.Errorf("with %d the current half has changed: %v", budget, x)
			}
		}
	}
	s := found(0, strings.Repeat("x", 72), "other")
	expect(t, "room for six bytes", appended(b, s, m, served(1, 1), 6), result{found(0, s.Halves[0]+written(b, served(1, 1)), "other"), next, 0, api.OK})
}

// P10.6: no room for another call: ErrFull, however much the half has room for, and also without power. All other
// records, and a call that has an entry, are written.
func TestAppendFull(t *testing.T) {
	b := roomy(house(4, 2), 78)
	m := image(2, entry(1, 1, 0), entry(2, 2, 1))
	for _, s := range []api.Store{{}, found(1, "x", "y"), found(0, strings.Repeat("x", 73), "")} {
		for _, budget := range []int{0, 1, 6, 100, math.MaxInt} {
			for _, c := range []call{{0, 1}, {1, 2}, {2, 1}, {3, 2}} {
				expect(t, "another call", appended(b, s, m, register(c.floor, c.dir), budget), refused(api.ErrFull))
			}
			for _, r := range []api.Record{register(1, 1), register(2, 2), served(0, 1), served(1, 1), assign(1, 1, 1), assign(0, 1, 1), flag(0, 1), {Kind: 4, Value: 1}, {Kind: 6, Value: 1}, {Kind: 7, Floor: 1, Dir: 1, Value: 1}} {
				x := appended(b, s, m, r, budget)
				expect(t, text(r), x, appending(b, s, m, r, budget))
				if budget >= 100 && x.e != api.OK {
					t.Errorf("Append of %+v: got the error %d", r, x.e)
				}
			}
		}
	}
	few := image(2, entry(1, 1, 0))
	expect(t, "the last call", appended(b, api.Store{}, few, register(3, 2), 6), result{found(0, written(b, register(3, 2)), ""), image(2, entry(1, 1, 0), entry(3, 2, -1)), 0, api.OK})
	expect(t, "the last call, with a byte too few", appended(roomy(b, 77), api.Store{}, few, register(3, 2), 6), refused(api.ErrFull))
}

// P10.6: the error of Compact, if an image has more entries than there is room for; without power for the erasing it
// is ErrPower.
func TestAppendCompactIsFull(t *testing.T) {
	b := roomy(house(4, 2), 78)
	m := everyCall(b)
	s := found(1, strings.Repeat("x", 73), "other")
	for _, r := range []api.Record{served(1, 1), register(1, 1), assign(1, 1, 1), flag(0, 1)} {
		for _, budget := range []int{1, 2, 100, math.MaxInt} {
			expect(t, "too many entries", appended(b, s, m, r, budget), refused(api.ErrFull))
		}
		expect(t, "no power", appended(b, s, m, r, 0), result{s, m, 0, api.ErrPower})
		expect(t, "room for the record", appended(b, found(1, "x", ""), m, r, 9), result{found(1, "x"+written(b, r), ""), behind(b, m, r), 3, api.OK})
	}
}

// P10.6: ErrArg, whatever else is wrong.
func TestAppendErrors(t *testing.T) {
	b := roomy(house(4, 2), 60)
	records := []api.Record{register(1, 1), register(3, 2), served(1, 1), flag(1, 1)}
	for _, m := range []api.Image{image(2), image(2, entry(1, 1, 0)), everyCall(b)} {
		for _, r := range records {
			for _, budget := range noBudgets() {
				expect(t, "no budget", appended(b, api.Store{}, m, r, budget), refused(api.ErrArg))
			}
			for _, s := range noStores(b) {
				for _, budget := range []int{-1, 0, 500} {
					expect(t, "no store", appended(b, s, m, r, budget), refused(api.ErrArg))
				}
			}
		}
		for _, r := range noRecords() {
			for _, budget := range []int{-1, 0, 500} {
				expect(t, text(r), appended(b, api.Store{}, m, r, budget), refused(api.ErrArg))
				expect(t, text(r), appended(b, found(0, strings.Repeat("x", 60), ""), m, r, budget), refused(api.ErrArg))
			}
		}
	}
	for what, m := range noImages() {
		for _, r := range append(noRecords(), records...) {
			for _, budget := range []int{-1, 0, 500} {
				expect(t, what, appended(b, api.Store{}, m, r, budget), refused(api.ErrArg))
			}
		}
	}
	for what, x := range noHouses() {
		for _, m := range []api.Image{{}, image(len(x.Cars)), image(2)} {
			for _, r := range []api.Record{{}, register(0, 1), flag(0, 1)} {
				for _, budget := range []int{-1, 0, 500} {
					expect(t, what, appended(x, api.Store{}, m, r, budget), refused(api.ErrArg))
				}
			}
		}
	}
}

// P10.7: a store as it was found, with a torn record and junk, cut behind any unit.
func TestRecover(t *testing.T) {
	b := house(4, 2)
	m := image(2, entry(1, 2, 1))
	old := found(1, written(b, register(1, 2), assign(1, 2, 1))+"torn", "junk")
	expect(t, "Recover", recovered(b, old, 100), result{found(0, written(b, snapshot(m)...), old.Halves[1]), m, 44, api.OK})
	for budget := range 60 {
		x := recovered(b, old, budget)
		expect(t, fmt.Sprint("Recover with ", budget), x, recovery(b, old, m, budget))
		if budget < 56 && (x.e != api.ErrPower || text(x.m) != text(api.Image{}) || x.left != 0) {
			t.Errorf("Recover with %d: got %v", budget, x)
		}
	}
	expect(t, "an empty store", recovered(b, api.Store{}, 38), result{found(1, written(b, snapshot(image(2))...), ""), image(2), 0, api.OK})
}

// P10.7: images of all kinds, of which a half has a snapshot.
func TestRecoverAnything(t *testing.T) {
	for _, b := range houses() {
		for i, m := range images(b) {
			s := found(i%2, written(b, snapshot(m)...)+"\x00", "other")
			need := 18*(len(m.Phases)+len(m.Entries)) + 2
			for _, budget := range []int{0, 1, 2, need / 2, need - 2, need - 1, need, need + 1, math.MaxInt} {
				expect(t, fmt.Sprint("Recover with ", budget), recovered(b, s, budget), recovery(b, s, m, budget))
			}
		}
	}
}

// P10.7: ErrArg ahead of all, and ErrFull if the store has more calls than there is room for, though not without power.
func TestRecoverErrors(t *testing.T) {
	b := roomy(house(4, 2), 60)
	for _, budget := range noBudgets() {
		expect(t, "no budget", recovered(b, api.Store{}, budget), refused(api.ErrArg))
		expect(t, "no budget", recovered(b, found(0, written(b, register(1, 1), register(2, 1)), ""), budget), refused(api.ErrArg))
	}
	for _, s := range noStores(b) {
		for _, budget := range []int{-1, 0, 500} {
			expect(t, "no store", recovered(b, s, budget), refused(api.ErrArg))
		}
	}
	for what, x := range noHouses() {
		for _, budget := range []int{-1, 0, 500} {
			expect(t, what, recovered(x, api.Store{}, budget), refused(api.ErrArg))
			expect(t, what, recovered(x, api.Store{Select: 2}, budget), refused(api.ErrArg))
		}
	}
	s := found(1, written(b, register(1, 1), register(2, 1)), "")
	expect(t, "too many calls", recovered(b, s, 500), refused(api.ErrFull))
	expect(t, "too many calls, and power to erase", recovered(b, s, 1), refused(api.ErrFull))
	expect(t, "too many calls, and no power", recovered(b, s, 0), result{s: s, e: api.ErrPower})
	expect(t, "just enough room", recovered(roomy(b, 72), s, 74), result{found(0, written(b, snapshot(image(2, entry(1, 1, -1), entry(2, 1, -1)))...), s.Halves[1]), image(2, entry(1, 1, -1), entry(2, 1, -1)), 0, api.OK})
}

// R3: the image that is handed in stays, whatever Append does with it.
func TestAppendShares(t *testing.T) {
	b := roomy(house(4, 2), 120)
	for _, s := range []api.Store{{}, found(0, strings.Repeat("x", 120), "")} {
		for _, r := range valid(b) {
			for _, budget := range []int{0, 6, 500} {
				m, whole := spare()
				before := whole()
				scribble(appended(b, s, m, r, budget).m)
				log.Compact(b, s, m, budget)
				log.Snapshot(b, m)
				log.Room(b, m)
				log.IsImage(b, m)
				if after := whole(); after != before {
					t.Errorf("Append of %+v with %d changes its image from %s to %s", r, budget, before, after)
				}
			}
		}
	}
}
