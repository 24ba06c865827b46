package log_test

import (
	"fmt"
	"math/rand"
	"slices"
	"testing"

	"overlay/api"
	"overlay/log"
	"overlay/store"
)

// tight are buildings with as little room as there may be, and with some more, so that halves are full again and again.
func tight() []api.Building {
	return []api.Building{roomy(house(2, 1), 42), roomy(house(4, 2), 60), roomy(house(4, 2), 101), roomy(house(9, 3), 150), roomy(house(32, 8), 1000)}
}

// journey appends n records without a rule to an empty store, and calls step ahead of each of them.
func journey(t *testing.T, b api.Building, n int, seed int64, step func(s api.Store, m api.Image, r api.Record)) (refusals int) {
	t.Helper()
	random := rand.New(rand.NewSource(seed))
	records := valid(b)
	s, m := api.Store{}, log.Initial(b)
	for range n {
		r := records[random.Intn(len(records))]
		if random.Intn(3) == 0 {
			c := hallCalls(b)[random.Intn(2*b.Floors-2)]
			r = register(c.floor, c.dir)
		}
		step(s, m, r)
		x := appended(b, s, m, r, 100000)
		if x.e == api.ErrFull && r.Kind == 1 {
			refusals++
			continue
		}
		if x.e != api.OK {
			t.Fatalf("Append of %+v to %s: got the error %d", r, text(m), x.e)
		}
		expectText(t, "the image", x.m, behind(b, m, r))
		s, m = x.s, x.m
	}
	return refusals
}

// The chapter's consequence: if calls are only registered by Append, no other record ever fails for lack of room; and
// behind each record Replay returns the image.
func TestJourneys(t *testing.T) {
	for i, b := range tight() {
		refusals := journey(t, b, 2000, int64(i), func(s api.Store, m api.Image, r api.Record) {
			if !store.IsStore(b.Room, s) {
				t.Errorf("this is no store: %x", s)
			}
			expectText(t, "Replay", log.Replay(b, s), m)
			if 18*(len(m.Phases)+len(m.Entries))+6 > b.Room {
				t.Errorf("too many calls for %d: %s", b.Room, text(m))
			}
		})
		if refusals == 0 && b.Room < 1000 {
			t.Errorf("no call has been refused with room for %d bytes", b.Room)
		}
	}
}

// The chapter's consequences: behind an Append that has been cut, at any unit, Replay returns the image before the record
// or behind it; behind a whole one that behind it.
func TestCutJourneys(t *testing.T) {
	for i, b := range tight()[:4] {
		journey(t, b, 150, int64(100+i), func(s api.Store, m api.Image, r api.Record) {
			for budget := 0; ; budget++ {
				x := appended(b, s, m, r, budget)
				if x.e != api.ErrPower {
					break
				}
				if got := text(log.Replay(b, x.s)); got != text(m) && got != text(behind(b, m, r)) {
					t.Errorf("Append of %+v with %d: Replay is %s, the image ahead of it %s", r, budget, got, text(m))
				}
			}
		})
	}
}

// The chapter's consequence: Recover changes nothing of what Replay returns, and can itself be cut anywhere, again and
// again; and what is recovered can be gone on with.
func TestCutRecoveries(t *testing.T) {
	random := rand.New(rand.NewSource(7))
	for i, b := range tight() {
		journey(t, b, 60, int64(200+i), func(s api.Store, m api.Image, r api.Record) {
			cut := appended(b, s, m, r, random.Intn(60)).s
			want := log.Replay(b, cut)
			for range 4 {
				x := recovered(b, cut, random.Intn(100))
				expectText(t, "Replay of a cut recovery", log.Replay(b, x.s), want)
				cut = x.s
			}
			whole := recovered(b, cut, 100000)
			expectText(t, "the error of Recover", whole.e, api.OK)
			expectText(t, "the image of Recover", whole.m, want)
			expectText(t, "Replay of a recovery", log.Replay(b, whole.s), want)
			next := appended(b, whole.s, whole.m, served(1, 2), 100000)
			expectText(t, "the next error", next.e, api.OK)
			expectText(t, "the next image", log.Replay(b, next.s), behind(b, want, served(1, 2)))
		})
	}
}

// The chapter's consequence, for each unit of one recovery, and each unit of the recovery of what that has left.
func TestTwoCuts(t *testing.T) {
	b := roomy(house(4, 2), 101)
	old := found(1, written(b, register(1, 2), assign(1, 2, -2), flag(0, 1))+"torn", written(b, register(3, 2)))
	want := log.Replay(b, old)
	for first := range 58 {
		x := recovered(b, old, first)
		for second := range 58 {
			y := recovered(b, x.s, second)
			expectText(t, fmt.Sprint("Replay behind ", first, " and ", second), log.Replay(b, y.s), want)
		}
	}
}

// Calls are registered until there is no room, all are served, and there is room again.
func TestFullAndEmpty(t *testing.T) {
	b := roomy(house(32, 8), 18*8+24+18*9)
	calls := hallCalls(b)
	s, m := api.Store{}, log.Initial(b)
	for range 3 {
		for i, c := range calls {
			x := appended(b, s, m, register(c.floor, c.dir), 100000)
			if i >= 10 {
				expect(t, "one more call", x, refused(api.ErrFull))
				continue
			}
			expectText(t, "the error of a call", x.e, api.OK)
			s, m = x.s, x.m
		}
		expectText(t, "the calls", m.Entries, everyCall(b).Entries[:10])
		for _, c := range slices.Backward(calls) {
			x := appended(b, s, m, served(c.floor, c.dir), 100000)
			expectText(t, "the error of a served call", x.e, api.OK)
			s, m = x.s, x.m
		}
		expectText(t, "no calls", m, image(8))
	}
}

// R3: the building is not changed, nor what lies behind its cars.
func TestBuildingStays(t *testing.T) {
	whole := house(4, 3)
	whole.Cars[2] = api.Car{Home: 99}
	b := whole
	b.Cars = whole.Cars[:2]
	before := text(whole)
	s, m := api.Store{}, log.Initial(b)
	for _, r := range valid(b) {
		s, m, _, _ = log.Append(b, s, m, r, 100000)
		log.Recover(b, s, 100000)
		log.Room(b, m)
	}
	if after := text(whole); after != before {
		t.Errorf("the building has changed from %s to %s", before, after)
	}
}

// R5: the same arguments give the same results, whatever has been called in between, and whatever spare capacity the
// lists of an image have.
func TestSameResults(t *testing.T) {
	b := roomy(house(4, 2), 120)
	results := func(m api.Image) string {
		all := text(log.Initial(b)) + text(log.Snapshot(b, m)) + text([]bool{log.IsImage(b, m), log.Room(b, m), log.Same(m, image(2))})
		for _, r := range append(noRecords(), valid(b)...) {
			next, e := log.Apply(b, m, r)
			all += text(next) + text(e)
			for _, budget := range []int{-1, 0, 3, 20, 500} {
				x := appended(b, api.Store{}, m, r, budget)
				all += text(x) + text(compacted(b, x.s, m, budget)) + text(recovered(b, x.s, budget)) + text(log.Replay(b, x.s))
			}
		}
		return all
	}
	m, _ := spare()
	tightly := image(2, append([]api.Entry{}, m.Entries...)...)
	first, second, third := results(m), results(tightly), results(m)
	if first != second || first != third {
		t.Errorf("the results differ")
	}
}
