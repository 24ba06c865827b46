package log_test

import (
	"math/rand"
	"strings"
	"testing"

	"overlay/api"
	"overlay/log"
)

func expectApply(t *testing.T, b api.Building, m api.Image, r api.Record, want api.Image, wantError api.Errno) {
	t.Helper()
	if got, e := log.Apply(b, m, r); text(got) != text(want) || e != wantError {
		t.Errorf("Apply of %s and %+v: got %s and %d, want %s and %d", text(m), r, text(got), e, text(want), wantError)
	}
}

// all returns the image that Apply makes out of m with records.
func all(t *testing.T, b api.Building, m api.Image, l ...api.Record) api.Image {
	t.Helper()
	for _, r := range l {
		next, e := log.Apply(b, m, r)
		if e != api.OK {
			t.Errorf("Apply of %s and %+v: got the error %d", text(m), r, e)
		}
		m = next
	}
	return m
}

// P10.2: the chapter's example.
func TestApplyExample(t *testing.T) {
	b := house(4, 2)
	m := all(t, b, log.Initial(b), register(2, 1), assign(2, 1, 0))
	expectText(t, "a registered and assigned call", m, image(2, api.Entry{Floor: 2, Dir: 1, Car: 0, Moves: 0, Moved: false}))
	expectText(t, "a served call", all(t, b, m, served(2, 1)), image(2))
}

// P10.2: each kind of record, about a call that has an entry and about one that has none.
func TestApplyCalls(t *testing.T) {
	b := house(4, 2)
	old := api.Entry{Floor: 1, Dir: 2, Car: 1, Moves: 3, Moved: true}
	m := image(2, entry(0, 1, -2), old, entry(2, 1, 0))
	for _, x := range []struct {
		r    api.Record
		want []api.Entry
	}{
		{register(1, 1), []api.Entry{m.Entries[0], entry(1, 1, -1), old, m.Entries[2]}},
		{register(2, 2), []api.Entry{m.Entries[0], old, m.Entries[2], entry(2, 2, -1)}},
		{register(3, 2), []api.Entry{m.Entries[0], old, m.Entries[2], entry(3, 2, -1)}},
		{register(1, 2), m.Entries},
		{register(0, 1), m.Entries},
		{served(1, 2), []api.Entry{m.Entries[0], m.Entries[2]}},
		{served(0, 1), m.Entries[1:]},
		{served(2, 1), m.Entries[:2]},
		{served(1, 1), m.Entries},
		{served(3, 2), m.Entries},
		{assign(1, 2, 0), []api.Entry{m.Entries[0], {Floor: 1, Dir: 2, Car: 0, Moves: 3, Moved: true}, m.Entries[2]}},
		{assign(1, 2, -1), []api.Entry{m.Entries[0], {Floor: 1, Dir: 2, Car: -1, Moves: 3, Moved: true}, m.Entries[2]}},
		{assign(1, 2, -2), []api.Entry{m.Entries[0], {Floor: 1, Dir: 2, Car: -2, Moves: 3, Moved: true}, m.Entries[2]}},
		{assign(1, 1, 0), m.Entries},
		{assign(2, 2, 1), m.Entries},
		{api.Record{Kind: 7, Floor: 1, Dir: 2, Value: 4}, []api.Entry{m.Entries[0], {Floor: 1, Dir: 2, Car: 1, Moves: 4}, m.Entries[2]}},
		{api.Record{Kind: 7, Floor: 0, Dir: 1, Car: 1, Value: 255}, []api.Entry{{Floor: 0, Dir: 1, Car: -2, Moves: 255, Moved: true}, old, m.Entries[2]}},
		{api.Record{Kind: 7, Floor: 1, Dir: 2}, []api.Entry{m.Entries[0], entry(1, 2, 1), m.Entries[2]}},
		{api.Record{Kind: 7, Floor: 1, Dir: 1, Car: 1, Value: 1}, m.Entries},
	} {
		expectApply(t, b, m, x.r, image(2, x.want...), api.OK)
	}
}

// P10.2: what a record says of a car, and nothing else.
func TestApplyCars(t *testing.T) {
	b := house(4, 3)
	start := image(3, entry(1, 1, 2))
	start.Phases, start.Flags, start.Leaving = []int{1, 4, 2}, []bool{true, false, true}, []bool{false, true, false}
	for car := range 3 {
		for phase := range 5 {
			want := all(t, b, start)
			want.Phases = []int{1, 4, 2}
			want.Phases[car] = phase
			expectApply(t, b, start, api.Record{Kind: 4, Car: car, Value: phase}, want, api.OK)
		}
		for value := range 2 {
			flags, leaving := start, start
			flags.Flags, leaving.Leaving = []bool{true, false, true}, []bool{false, true, false}
			flags.Flags[car], leaving.Leaving[car] = value == 1, value == 1
			expectApply(t, b, start, flag(car, value), flags, api.OK)
			expectApply(t, b, start, api.Record{Kind: 6, Car: car, Value: value}, leaving, api.OK)
		}
	}
}

// P10.2: all valid records with images of all kinds; the result is an image again.
func TestApplyAnything(t *testing.T) {
	for _, b := range houses() {
		records := valid(b)
		for i, m := range images(b) {
			for k, r := range records {
				if b.Floors > 9 && (i+k)%7 != 0 {
					continue
				}
				expectApply(t, b, m, r, behind(b, m, r), api.OK)
				next, _ := log.Apply(b, m, r)
				expectIsImage(t, "behind a record", b, next, true)
			}
		}
	}
}

// P10.2: calls that are registered, and then served, in any order.
func TestApplyOrders(t *testing.T) {
	random := rand.New(rand.NewSource(10))
	for _, b := range houses() {
		calls := hallCalls(b)
		for range 20 {
			m, want := log.Initial(b), image(len(b.Cars))
			for _, i := range random.Perm(len(calls)) {
				r := register(calls[i].floor, calls[i].dir)
				m, want = all(t, b, m, r), behind(b, want, r)
				expectText(t, "registered calls", m, want)
			}
			expectText(t, "all calls", m, everyCall(b))
			for _, i := range random.Perm(len(calls)) {
				r := served(calls[i].floor, calls[i].dir)
				m, want = all(t, b, m, r), behind(b, want, r)
				expectText(t, "served calls", m, want)
			}
			expectText(t, "no calls", m, image(len(b.Cars)))
		}
	}
}

// P10.2: ErrArg for what is no image, no record, or both, and for a building that is not valid.
func TestApplyErrors(t *testing.T) {
	b := house(4, 2)
	for _, m := range noImages() {
		for _, r := range append(noRecords(), valid(b)...) {
			expectApply(t, b, m, r, api.Image{}, api.ErrArg)
		}
	}
	for _, m := range images(b) {
		for _, r := range noRecords() {
			expectApply(t, b, m, r, api.Image{}, api.ErrArg)
		}
	}
	for _, x := range noHouses() {
		for _, m := range []api.Image{{}, image(1), image(len(x.Cars)), image(len(x.Cars), entry(0, 1, 0))} {
			for _, r := range []api.Record{{}, register(0, 1), flag(0, 1)} {
				expectApply(t, x, m, r, api.Image{}, api.ErrArg)
			}
		}
	}
}

// P10.3: the records, in their order, and the image that Apply makes out of Initial with them.
func TestSnapshot(t *testing.T) {
	m := image(2, api.Entry{Floor: 1, Dir: 1, Car: -2, Moves: 255, Moved: true}, entry(1, 2, -1), api.Entry{Floor: 3, Dir: 2, Car: 1, Moves: 1})
	m.Phases, m.Flags, m.Leaving = []int{2, 4}, []bool{true, false}, []bool{false, true}
	expectText(t, "Snapshot", log.Snapshot(house(4, 2), m), []api.Record{
		{Kind: 4, Car: 0, Value: 2}, {Kind: 5, Car: 0, Value: 1}, {Kind: 6, Car: 0, Value: 0},
		{Kind: 4, Car: 1, Value: 4}, {Kind: 5, Car: 1, Value: 0}, {Kind: 6, Car: 1, Value: 1},
		{Kind: 1, Floor: 1, Dir: 1}, {Kind: 3, Floor: 1, Dir: 1, Car: -2}, {Kind: 7, Floor: 1, Dir: 1, Car: 1, Value: 255},
		{Kind: 1, Floor: 1, Dir: 2}, {Kind: 3, Floor: 1, Dir: 2, Car: -1}, {Kind: 7, Floor: 1, Dir: 2},
		{Kind: 1, Floor: 3, Dir: 2}, {Kind: 3, Floor: 3, Dir: 2, Car: 1}, {Kind: 7, Floor: 3, Dir: 2, Value: 1},
	})
	for _, b := range houses() {
		for _, m := range images(b) {
			l := log.Snapshot(b, m)
			expectText(t, "Snapshot", l, snapshot(m))
			expectText(t, "the image of a snapshot", all(t, b, log.Initial(b), l...), m)
		}
	}
}

// P10.3: none of what is no image.
func TestSnapshotOfNoImage(t *testing.T) {
	for what, m := range noImages() {
		expectText(t, "Snapshot, "+what, log.Snapshot(house(4, 2), m), []api.Record{})
	}
	for what, b := range noHouses() {
		for _, m := range []api.Image{{}, image(len(b.Cars)), image(len(b.Cars), entry(0, 1, 0))} {
			expectText(t, "Snapshot, "+what, log.Snapshot(b, m), []api.Record{})
		}
	}
}

// P10.3: one more call has room exactly if 18 * (C + E + 1) + 6 bytes have.
func TestRoom(t *testing.T) {
	for _, b := range houses() {
		m := everyCall(b)
		for n := range len(m.Entries) + 1 {
			few := m
			few.Entries = m.Entries[:n]
			need := 18*(len(b.Cars)+n+1) + 6
			for _, room := range []int{need - 19, need - 18, need - 6, need - 1, need, need + 1, need + 18, 65536} {
				least := 18*len(b.Cars) + 24
				want := room >= need && room >= least
				if got := log.Room(roomy(b, room), few); got != want {
					t.Errorf("Room of %d, %d cars and %d entries: got %v, want %v", room, len(b.Cars), n, got, want)
				}
			}
		}
	}
}

// P10.3: there is no room for a call in what is no image, however much room the building has.
func TestRoomOfNoImage(t *testing.T) {
	for what, m := range noImages() {
		if log.Room(roomy(house(4, 2), 65536), m) {
			t.Errorf("Room, %s: got true", what)
		}
	}
	for what, b := range noHouses() {
		for _, m := range []api.Image{{}, image(len(b.Cars))} {
			if log.Room(b, m) {
				t.Errorf("Room, %s: got true", what)
			}
		}
	}
}

// found is a store with a current half of these bytes.
func found(half int, current, other string) api.Store {
	s := api.Store{Select: half}
	s.Halves[half], s.Halves[1-half] = current, other
	return s
}

// P10.4: the records of the half that counts, up to the first bytes that are none of a record.
func TestReplay(t *testing.T) {
	b := house(4, 2)
	l := []api.Record{register(2, 1), assign(2, 1, 1), {Kind: 7, Floor: 2, Dir: 1, Car: 1, Value: 1}, register(1, 2), {Kind: 4, Car: 0, Value: 1}, flag(1, 1), {Kind: 6, Car: 1, Value: 1}, served(2, 1), register(0, 1)}
	junk := written(b, register(1, 1))
	for half := range 2 {
		expectText(t, "an empty half", log.Replay(b, found(half, "", junk)), image(2))
		for n := range len(l) + 1 {
			want := image(2)
			for _, r := range l[:n] {
				want = behind(b, want, r)
			}
			for _, tail := range []string{"", "x", "torn", "\x00\x00\x00\x00\x00\x00" + junk, written(b, l...)[:5], "\x01\x03\x01\x02\x00\x19" + junk} {
				expectText(t, "records and "+tail, log.Replay(b, found(half, written(b, l[:n]...)+tail, junk)), want)
			}
		}
	}
}

// P10.4: all valid records, ahead of which calls are registered, so that each of them finds an entry.
func TestReplayAnything(t *testing.T) {
	random := rand.New(rand.NewSource(4))
	for _, b := range houses() {
		records := valid(b)
		for range 20 {
			l, want := snapshot(everyCall(b)), everyCall(b)
			for range 40 {
				r := records[random.Intn(len(records))]
				l, want = append(l, r), behind(b, want, r)
			}
			expectText(t, "Replay", log.Replay(b, found(random.Intn(2), written(b, l...), "")), want)
		}
	}
}

// P10.4: a half that is full to the last byte that any may have, and one that is no store.
func TestReplayMuch(t *testing.T) {
	b := roomy(house(32, 8), 65536)
	m := anyImage(b, 99, rand.New(rand.NewSource(5)))
	full := strings.Repeat(written(b, snapshot(everyCall(b))...), 60)
	full = full[:65536-65536%6-6*len(snapshot(m))] + written(b, snapshot(m)...) + "torn"
	want := image(8)
	for _, r := range snapshot(everyCall(b)) {
		want = behind(b, want, r)
	}
	for _, r := range snapshot(m) {
		want = behind(b, want, r)
	}
	expectText(t, "a full half", log.Replay(b, found(1, full, "")), want)
	expectText(t, "more than a half has room for", log.Replay(b, found(1, full[:len(full)-4]+full, "")), want)
}

// P10.4: half 0 counts if Select is neither 0 nor 1, and there is nothing in a building that is not valid.
func TestReplayElsewhere(t *testing.T) {
	b := house(4, 2)
	for _, half := range []int{-1, 2, 3, 1 << 32, -1 << 62} {
		s := api.Store{Halves: [2]string{written(b, register(1, 1)), written(b, register(2, 2))}, Select: half}
		expectText(t, "another half", log.Replay(b, s), image(2, entry(1, 1, -1)))
	}
	for what, x := range noHouses() {
		for _, s := range []api.Store{{}, found(0, written(b, register(1, 1)), "")} {
			expectText(t, "Replay, "+what, log.Replay(x, s), api.Image{})
		}
	}
	l := []api.Record{register(1, 2), flag(1, 1), register(3, 2), register(1, 1)}
	expectText(t, "fewer floors", log.Replay(house(3, 2), found(0, written(b, l...), "")), behind(b, image(2, entry(1, 2, -1)), flag(1, 1)))
	expectText(t, "fewer cars", log.Replay(house(4, 1), found(0, written(b, l...), "")), image(1, entry(1, 2, -1)))
}

// spare is an image whose lists have spare capacity, and what it looks like with that.
func spare() (api.Image, func() string) {
	m := image(3, append(everyCall(house(4, 3)).Entries, entry(9, 9, 9), entry(8, 8, 8))...)
	m.Phases[2], m.Flags[2], m.Leaving[2] = 77, true, true
	whole := m
	m.Phases, m.Flags, m.Leaving, m.Entries = m.Phases[:2], m.Flags[:2], m.Leaving[:2], m.Entries[:4]
	return m, func() string { return text(whole) }
}

// scribble writes into all of an image, and into its spare capacity.
func scribble(m api.Image) {
	fill(m.Phases, 55)
	fill(m.Flags, true)
	fill(m.Leaving, true)
	fill(m.Entries, entry(66, 66, 66))
}

func fill[T any](l []T, x T) {
	l = l[:cap(l)]
	for i := range l {
		l[i] = x
	}
}

// R3: images are not changed by any record, nor what lies behind them, and results share nothing with them.
func TestApplyShares(t *testing.T) {
	b := house(4, 2)
	for _, r := range valid(b) {
		m, whole := spare()
		before := whole()
		want := text(behind(b, m, r))
		first, _ := log.Apply(b, m, r)
		second, _ := log.Apply(b, m, r)
		scribble(first)
		if after := whole(); after != before {
			t.Errorf("Apply of %+v changes its image from %s to %s", r, before, after)
		}
		scribble(m)
		expectText(t, "another result of Apply", second, want)
	}
	empty := image(2, make([]api.Entry, 3)...)
	empty.Entries = empty.Entries[:0]
	next, _ := log.Apply(b, empty, register(1, 1))
	expectText(t, "Apply", next, image(2, entry(1, 1, -1)))
	expectText(t, "spare capacity", empty.Entries[:3], make([]api.Entry, 3))
}

// R3: the parts of a result, and the results of several calls, share nothing.
func TestResultsShareNothing(t *testing.T) {
	b := house(4, 2)
	s := found(0, written(b, register(1, 1), register(2, 2)), "")
	for _, get := range []func() api.Image{
		func() api.Image { return log.Initial(b) },
		func() api.Image { return log.Replay(b, s) },
		func() api.Image { m, _ := log.Apply(b, image(2), register(1, 1)); return m },
		func() api.Image { _, m, _, _ := log.Append(b, s, image(2), register(1, 1), 100); return m },
		func() api.Image { _, m, _, _ := log.Append(b, s, image(2), register(1, 1), 1); return m },
		func() api.Image { _, m, _, _ := log.Recover(b, s, 100); return m },
	} {
		first, second := get(), get()
		want := text(second)
		scribble(first)
		expectText(t, "another result", second, want)
		fill(second.Flags, true)
		if second.Leaving[0] || second.Leaving[1] {
			t.Errorf("Flags and Leaving share memory: %s", text(second))
		}
	}
	m := image(2, entry(1, 1, 0))
	first, second := log.Snapshot(b, m), log.Snapshot(b, m)
	clear(first[:cap(first)])
	expectText(t, "another snapshot", second, snapshot(m))
}
