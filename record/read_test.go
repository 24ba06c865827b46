package record_test

import (
	"math/rand"
	"slices"
	"strings"
	"testing"

	"overlay/api"
	"overlay/record"
)

// joined are the bytes of records, one after the other.
func joined(l []api.Record) string {
	var s strings.Builder
	for _, r := range l {
		s.WriteString(bytesOf(r))
	}
	return s.String()
}

// some are n valid records, in an order without a rule; the same ones for the same seed.
func some(b api.Building, n int, seed int64) []api.Record {
	all, random := valid(b), rand.New(rand.NewSource(seed))
	l := make([]api.Record, n)
	for i := range l {
		l[i] = all[random.Intn(len(all))]
	}
	return l
}

// noRecords are strings of which no beginning is the bytes of a record with up to 9 floors.
func noRecords() []string {
	l := []string{
		"", "x", "\x00", "\x01", "xxxxxx", "\x00\x00\x00\x00\x00\x00", strings.Repeat("\x00", 60), "\xff\xff\xff\xff\xff\xff",
		sealed(0, 0, 0, 2, 0), sealed(8, 0, 0, 2, 0), sealed(1, 9, 1, 2, 0), sealed(1, 0, 1, 2), sealed(1, 0, 1, 2, 0, 0), "\x01\x00\x01\x02\x00\x22",
	}
	for n := range 6 {
		l = append(l, sealed(1, 0, 1, 2, 0)[:n])
	}
	return l
}

// expectRead tests Read, with the records that s begins with.
func expectRead(t *testing.T, b api.Building, s string, want []api.Record) {
	t.Helper()
	l, n := record.Read(b, s)
	if !slices.Equal(l, want) || n != 6*len(want) {
		t.Errorf("Read of %x with %d floors and %d cars: got %d bytes, %+v, want %d bytes, %+v", s, b.Floors, len(b.Cars), n, l, 6*len(want), want)
	}
}

// beginning is what Read returns, by the definition: of all numbers of records, the greatest one with which the
// beginning of s is the bytes of valid records.
func beginning(known map[api.Record]bool, s string) []api.Record {
	for n := len(s) / 6; n > 0; n-- {
		var l []api.Record
		for i := range n {
			if r := recordOf(s[6*i:]); known[r] && bytesOf(r) == s[6*i:6*i+6] {
				l = append(l, r)
			}
		}
		if len(l) == n {
			return l
		}
	}
	return nil
}

// P9.3: none, one and two records, and what ends them.
func TestRead(t *testing.T) {
	b := house(4, 2)
	x, y := api.Record{Kind: 1, Floor: 3, Dir: 2}, api.Record{Kind: 4, Car: 1, Value: 3}
	sx, sy := "\x01\x03\x02\x02\x00\xa4", sealed(4, 0, 0, 3, 3)
	expectRead(t, b, "", nil)
	expectRead(t, b, sx, []api.Record{x})
	expectRead(t, b, sx+sy, []api.Record{x, y})
	expectRead(t, b, sy+sx+sx, []api.Record{y, x, x})
	expectRead(t, b, sx[:5], nil)
	expectRead(t, b, sx+sy[:5], []api.Record{x})
	expectRead(t, b, sx+"\x00"+sy, []api.Record{x})
	expectRead(t, b, "\x00"+sx+sy, nil)
	expectRead(t, b, "xxxxxx"+sx, nil)
	expectRead(t, b, sx+"xxxxxx"+sy, []api.Record{x})
	expectRead(t, b, sx+sealed(1, 3, 1, 2, 0)+sy, []api.Record{x}) // up at the last floor is no hall call
	expectRead(t, b, sx[1:]+sx, nil)
}

// P9.3 and the chapter's consequence: what Read returns for the bytes of records with something behind them begins with
// these records.
func TestReadRecords(t *testing.T) {
	for i, b := range houses() {
		for n := range 12 {
			l := some(b, n, int64(20*i+n))
			expectRead(t, b, joined(l), l)
			if b.Floors > 9 {
				continue
			}
			for _, behind := range noRecords() {
				expectRead(t, b, joined(l)+behind, l)
				more, m := record.Read(b, joined(l)+behind+joined(l))
				if len(more) < n || !slices.Equal(more[:n], l) || m != 6*len(more) {
					t.Errorf("Read of %+v and %x and these once more: got %+v and %d", l, behind, more, m)
				}
			}
		}
	}
}

// P9.3: every valid record of the largest building, which are far more than a half of a store has room for.
func TestReadMany(t *testing.T) {
	b := house(32, 8)
	l := valid(b)
	expectSame := func(s string, want []api.Record) {
		t.Helper()
		if got, n := record.Read(b, s); !slices.Equal(got, want) || n != 6*len(want) {
			t.Errorf("Read of %d bytes: got %d records and %d, want %d", len(s), len(got), n, len(want))
		}
	}
	expectSame(joined(l), l)
	expectSame(joined(l)[:65536], l[:10922])
	expectSame(joined(l)+strings.Repeat("\x00", 1<<20), l)
	expectSame(strings.Repeat("\x00", 1<<20)+joined(l), nil)
}

// P9.3: the bytes are cut anywhere, as by a power failure.
func TestReadCut(t *testing.T) {
	for i, b := range houses() {
		l := some(b, 9, int64(i))
		for n := range len(joined(l)) + 1 {
			expectRead(t, b, joined(l)[:n], l[:n/6])
		}
	}
}

// P9.3 and the chapter's consequence: one changed bit in a record ends what is read, also if valid records follow.
func TestReadChangedBit(t *testing.T) {
	for i, b := range houses() {
		l := some(b, 7, int64(i))
		for bit := range 8 * len(joined(l)) {
			expectRead(t, b, changed(joined(l), bit), l[:bit/48])
		}
	}
}

// piece is most often the bytes of a valid record; otherwise bytes with the right sum, or anything.
func piece(b api.Building, all []api.Record, random *rand.Rand) string {
	switch random.Intn(8) {
	case 0:
		return noRecords()[random.Intn(len(noRecords()))]
	case 1:
		return sealed(byte(random.Intn(9)), byte(random.Intn(b.Floors+1)), byte(random.Intn(4)), byte(random.Intn(len(b.Cars)+4)), byte(random.Intn(6)))
	}
	return bytesOf(all[random.Intn(len(all))])
}

// P9.3: strings of pieces of all kinds.
func TestReadAnything(t *testing.T) {
	random := rand.New(rand.NewSource(9))
	for _, b := range []api.Building{house(2, 1), house(9, 3), house(32, 8)} {
		all, known := valid(b), set(b)
		for range 3000 {
			s := ""
			for range random.Intn(7) {
				s += piece(b, all, random)
			}
			expectRead(t, b, s, beginning(known, s))
		}
	}
}

// P9.3: none and 0 if b is not valid.
func TestReadNoBuilding(t *testing.T) {
	for _, b := range noHouses() {
		for _, s := range append(noRecords(), joined(valid(house(2, 1)))) {
			expectRead(t, b, s, nil)
		}
	}
}

// P9.3: the building decides where the records end.
func TestReadElsewhere(t *testing.T) {
	l := []api.Record{{Kind: 1, Floor: 1, Dir: 2}, {Kind: 3, Floor: 2, Dir: 1, Car: 1}, {Kind: 4, Car: 2, Value: 1}, {Kind: 1, Floor: 4, Dir: 2}}
	expectRead(t, house(5, 3), joined(l), l)
	expectRead(t, house(4, 3), joined(l), l[:3])
	expectRead(t, house(5, 2), joined(l), l[:2])
	expectRead(t, house(5, 1), joined(l), l[:1])
	expectRead(t, house(2, 3), joined(l), l[:1])
}

// R3: whoever writes into the records changes nothing that another call returned.
func TestReadShares(t *testing.T) {
	b := house(4, 2)
	l := some(b, 5, 1)
	s := joined(l)
	first, _ := record.Read(b, s)
	second, _ := record.Read(b, s)
	for i := range first {
		first[i] = api.Record{Kind: 99}
	}
	_ = append(first[:0], make([]api.Record, cap(first))...)
	if !slices.Equal(second, l) {
		t.Errorf("the records have changed from %+v to %+v", l, second)
	}
	expectRead(t, b, s, l)
}
