package record_test

import (
	"fmt"
	"math"
	"testing"

	"overlay/api"
	"overlay/crc"
	"overlay/record"
)

// house returns a valid building.
func house(floors, cars int) api.Building {
	b := api.Building{Floors: floors, Debounce: 1, Room: 1000, Park: 1, Empty: 0.125, Full: 0.75, Over: 1.125}
	for range cars {
		b.Cars = append(b.Cars, api.Car{Deadline: 100, Pulse: 1, Quiet: 1, Step: 4, Travel: 2, Dwell: 10, Hold: 10})
	}
	return b
}

// houses are buildings at both ends of the ranges of floors and cars, and between them.
func houses() []api.Building {
	return []api.Building{house(2, 1), house(3, 1), house(4, 2), house(9, 3), house(2, 8), house(31, 4), house(32, 8)}
}

// noHouses returns a building for each error of building.Valid.
func noHouses() map[string]api.Building {
	times, loads, room := house(4, 2), house(4, 2), house(4, 2)
	times.Cars[1].Home, loads.Full, room.Room = 4, math.NaN(), 59
	return map[string]api.Building{
		"no building": {}, "a floor": house(1, 2), "33 floors": house(33, 2), "no cars": house(4, 0), "nine cars": house(4, 9),
		"ErrTimes": times, "ErrLoads": loads, "ErrRoom": room,
	}
}

// call is a hall call.
type call struct{ floor, dir int }

// hallCalls are those of the definition: up at all floors but the last one, down at all but the first one.
func hallCalls(b api.Building) []call {
	var l []call
	for f := range b.Floors {
		if f < b.Floors-1 {
			l = append(l, call{f, 1})
		}
		if f > 0 {
			l = append(l, call{f, 2})
		}
	}
	return l
}

// valid are all valid records of a building: the chapter's table, line by line, with the numbers of package api written out.
func valid(b api.Building) []api.Record {
	var l []api.Record
	for _, c := range hallCalls(b) {
		l = append(l, api.Record{Kind: 1, Floor: c.floor, Dir: c.dir}, api.Record{Kind: 2, Floor: c.floor, Dir: c.dir})
		for car := -2; car < len(b.Cars); car++ {
			l = append(l, api.Record{Kind: 3, Floor: c.floor, Dir: c.dir, Car: car})
		}
		for moves := range 256 {
			l = append(l, api.Record{Kind: 7, Floor: c.floor, Dir: c.dir, Value: moves}, api.Record{Kind: 7, Floor: c.floor, Dir: c.dir, Car: 1, Value: moves})
		}
	}
	for car := range b.Cars {
		for phase := range 5 {
			l = append(l, api.Record{Kind: 4, Car: car, Value: phase})
		}
		for value := range 2 {
			l = append(l, api.Record{Kind: 5, Car: car, Value: value}, api.Record{Kind: 6, Car: car, Value: value})
		}
	}
	return l
}

// set is all valid records of a building, to look one up.
func set(b api.Building) map[api.Record]bool {
	m := map[api.Record]bool{}
	for _, r := range valid(b) {
		m[r] = true
	}
	return m
}

// sealed are five bytes with their sum.
func sealed(l ...byte) string {
	return string(l) + string([]byte{crc.Sum8(string(l))})
}

// bytesOf are the bytes of a valid record, by the definition.
func bytesOf(r api.Record) string {
	return sealed(byte(r.Kind), byte(r.Floor), byte(r.Dir), byte(r.Car+2), byte(r.Value))
}

// recordOf is the record of six bytes if they are right otherwise.
func recordOf(s string) api.Record {
	return api.Record{Kind: int(s[0]), Floor: int(s[1]), Dir: int(s[2]), Car: int(s[3]) - 2, Value: int(s[4])}
}

// expectRecord tests what Valid and Encode say of a record.
func expectRecord(t *testing.T, b api.Building, r api.Record, want bool) {
	t.Helper()
	s, e := "", api.ErrArg
	if want {
		s, e = bytesOf(r), api.OK
	}
	if got := record.Valid(b, r); got != want {
		t.Errorf("Valid of %+v with %d floors and %d cars: got %v, want %v", r, b.Floors, len(b.Cars), got, want)
	}
	if gotS, gotE := record.Encode(b, r); gotS != s || gotE != e {
		t.Errorf("Encode of %+v with %d floors and %d cars: got %x and %d, want %x and %d", r, b.Floors, len(b.Cars), gotS, gotE, s, e)
	}
}

func expectDecode(t *testing.T, b api.Building, s string, want api.Record, wantError api.Errno) {
	t.Helper()
	if r, e := record.Decode(b, s); r != want || e != wantError {
		t.Errorf("Decode of %x with %d floors and %d cars: got %+v and %d, want %+v and %d", s, b.Floors, len(b.Cars), r, e, want, wantError)
	}
}

func expectNone(t *testing.T, b api.Building, s string, want api.Errno) {
	t.Helper()
	expectDecode(t, b, s, api.Record{}, want)
}

// P9.1, P9.2: the chapter's example and a record or two of each kind, with bytes and sums that are worked out elsewhere.
func TestKnownRecords(t *testing.T) {
	b := house(5, 2)
	for s, r := range map[string]api.Record{
		"\x01\x03\x01\x02\x00\x19": {Kind: api.RecRegister, Floor: 3, Dir: api.DirUp},
		"\x01\x03\x02\x02\x00\xa4": {Kind: api.RecRegister, Floor: 3, Dir: api.DirDown},
		"\x02\x00\x01\x02\x00\x85": {Kind: api.RecServed, Floor: 0, Dir: api.DirUp},
		"\x02\x02\x02\x02\x00\x14": {Kind: api.RecServed, Floor: 2, Dir: api.DirDown},
		"\x03\x01\x01\x01\x00\xce": {Kind: api.RecAssign, Floor: 1, Dir: api.DirUp, Car: api.CarNone},
		"\x03\x01\x01\x00\x00\xdb": {Kind: api.RecAssign, Floor: 1, Dir: api.DirUp, Car: api.CarAll},
		"\x03\x01\x02\x02\x00\x4c": {Kind: api.RecAssign, Floor: 1, Dir: api.DirDown, Car: 0},
		"\x03\x01\x02\x03\x00\x59": {Kind: api.RecAssign, Floor: 1, Dir: api.DirDown, Car: 1},
		"\x04\x00\x00\x02\x00\xa5": {Kind: api.RecPhase, Car: 0, Value: api.Legacy},
		"\x04\x00\x00\x03\x04\xac": {Kind: api.RecPhase, Car: 1, Value: api.New},
		"\x05\x00\x00\x02\x01\xc0": {Kind: api.RecFlag, Car: 0, Value: 1},
		"\x05\x00\x00\x03\x00\xd2": {Kind: api.RecFlag, Car: 1, Value: 0},
		"\x06\x00\x00\x03\x01\x73": {Kind: api.RecLeave, Car: 1, Value: 1},
		"\x06\x00\x00\x02\x00\x61": {Kind: api.RecLeave, Car: 0, Value: 0},
		"\x07\x02\x01\x02\x00\x44": {Kind: api.RecMoves, Floor: 2, Dir: api.DirUp, Car: 0, Value: 0},
		"\x07\x02\x01\x03\xff\xa2": {Kind: api.RecMoves, Floor: 2, Dir: api.DirUp, Car: 1, Value: api.MaxMoves},
		"\x07\x03\x02\x02\x80\x66": {Kind: api.RecMoves, Floor: 3, Dir: api.DirDown, Car: 0, Value: 128},
	} {
		if got, e := record.Encode(b, r); got != s || e != api.OK {
			t.Errorf("Encode of %+v: got %x and %d, want %x and 0", r, got, e, s)
		}
		if !record.Valid(b, r) {
			t.Errorf("Valid of %+v: got false", r)
		}
		expectDecode(t, b, s, r, api.OK)
	}
}

// P9.1, P9.2: all valid records of buildings of all sizes, and their bytes.
func TestValidRecords(t *testing.T) {
	for _, b := range houses() {
		for _, r := range valid(b) {
			expectRecord(t, b, r, true)
			expectDecode(t, b, bytesOf(r), r, api.OK)
		}
	}
}

// P9.1, P9.2: of all combinations of small numbers exactly those of the table are valid.
func TestSmallNumbers(t *testing.T) {
	for _, b := range []api.Building{house(2, 1), house(4, 2), house(3, 3)} {
		known := set(b)
		for kind := -2; kind <= 10; kind++ {
			for floor := -2; floor <= 5; floor++ {
				for dir := -1; dir <= 4; dir++ {
					for car := -4; car <= 4; car++ {
						for _, value := range []int{-256, -2, -1, 0, 1, 2, 3, 4, 5, 6, 254, 255, 256, 257} {
							r := api.Record{Kind: kind, Floor: floor, Dir: dir, Car: car, Value: value}
							expectRecord(t, b, r, known[r])
						}
					}
				}
			}
		}
	}
}

// numbers are all of a byte and around it, the ends of the ranges of wider numbers, and such as end in the bits of a small one.
func numbers() []int {
	l := []int{math.MinInt, math.MinInt + 1, math.MinInt + 2, math.MaxInt - 2, math.MaxInt - 1, math.MaxInt}
	for _, n := range []int{1 << 16, 1 << 31, 1 << 32, 1 << 62} {
		for small := -3; small <= 8; small++ {
			l = append(l, n+small, -n+small)
		}
	}
	for n := -600; n <= 600; n++ {
		l = append(l, n)
	}
	return l
}

// with are the records that differ from r in one field at most, which has the number n.
func with(r api.Record, n int) []api.Record {
	l := []api.Record{r, r, r, r, r}
	l[0].Kind, l[1].Floor, l[2].Dir, l[3].Car, l[4].Value = n, n, n, n, n
	return l
}

// P9.1, P9.2: any number in any field of a record of each form, in the largest building and in a small one.
func TestOtherNumbers(t *testing.T) {
	for _, b := range []api.Building{house(32, 8), house(4, 2)} {
		known := set(b)
		for _, r := range []api.Record{
			{Kind: 1, Floor: 2, Dir: 1}, {Kind: 2, Floor: 1, Dir: 2}, {Kind: 3, Floor: 1, Dir: 1, Car: 1}, {Kind: 3, Floor: 2, Dir: 2, Car: -2},
			{Kind: 4, Car: 1, Value: 3}, {Kind: 5, Car: 1, Value: 1}, {Kind: 6, Car: 0, Value: 0}, {Kind: 7, Floor: 2, Dir: 1, Car: 1, Value: 7},
		} {
			for _, n := range numbers() {
				for _, x := range with(r, n) {
					expectRecord(t, b, x, known[x])
				}
			}
		}
	}
}

// P9.1, P9.2: without a valid building no record is valid, and nothing is encoded.
func TestNoBuilding(t *testing.T) {
	for _, b := range noHouses() {
		for _, r := range append(valid(house(3, 1)), api.Record{}, api.Record{Kind: 8}, api.Record{Kind: 1, Floor: -1, Dir: 1}) {
			expectRecord(t, b, r, false)
		}
	}
}

// P9.2: a building that is not valid is the first error, whatever s is.
func TestDecodeNoBuilding(t *testing.T) {
	for _, b := range noHouses() {
		for _, s := range []string{"", "x", "\x01\x00\x01\x02\x00\x23", "\x04\x00\x00\x02\x00\xa5", "\x01\x00\x01\x02\x00\x00", "\x00\x00\x00\x00\x00\x00", "more than six bytes"} {
			expectNone(t, b, s, api.ErrArg)
		}
	}
}

// P9.2: another number of bytes than six is refused, also if the last one is the sum of the others, and if there are
// the bytes of a record at either end.
func TestDecodeSizes(t *testing.T) {
	b, s := house(4, 2), bytesOf(api.Record{Kind: 1, Floor: 1, Dir: 1})
	expectNone(t, b, "", api.ErrSize)
	expectNone(t, b, "\x00", api.ErrSize)
	expectNone(t, b, s[:5], api.ErrSize)
	expectNone(t, b, s[1:], api.ErrSize)
	expectNone(t, b, s+s, api.ErrSize)
	for n := range 20 {
		l := make([]byte, n)
		copy(l, s)
		if n != 5 {
			expectNone(t, b, sealed(l...), api.ErrSize)
		}
		if n > 0 {
			expectNone(t, b, s+string(l), api.ErrSize)
			expectNone(t, b, string(l)+s, api.ErrSize)
		}
	}
}

// P9.2: with any other sum than their own, the bytes of a record are refused, and so are those of none.
func TestDecodeSums(t *testing.T) {
	for _, b := range []api.Building{house(2, 1), house(5, 3)} {
		l := []string{sealed(0, 0, 0, 0, 0), sealed(0, 0, 0, 2, 0), sealed(8, 0, 0, 2, 0), sealed(1, 9, 1, 2, 0), sealed(255, 255, 255, 255, 255)}
		for _, r := range valid(b) {
			l = append(l, bytesOf(r))
		}
		for _, s := range l {
			for other := 1; other < 256; other++ {
				expectNone(t, b, s[:5]+string([]byte{s[5] ^ byte(other)}), api.ErrSum)
			}
		}
	}
}

// P9.2: of bytes with the right sum those of a valid record are read, and no others.
func TestDecodeBytes(t *testing.T) {
	fields := []byte{0, 1, 2, 3, 4, 5, 9, 10, 31, 32, 128, 255}
	for _, b := range []api.Building{house(2, 1), house(4, 2), house(32, 8)} {
		known := set(b)
		for kind := range byte(10) {
			for _, floor := range fields {
				for _, dir := range fields {
					for _, car := range fields {
						for _, value := range fields {
							s := sealed(kind, floor, dir, car, value)
							if r := recordOf(s); known[r] {
								expectDecode(t, b, s, r, api.OK)
							} else {
								expectNone(t, b, s, api.ErrCorrupt)
							}
						}
					}
				}
			}
		}
	}
}

// P9.2: every byte at each place, behind which the sum is right again.
func TestDecodeAnyByte(t *testing.T) {
	b := house(9, 5)
	known := set(b)
	for _, start := range []api.Record{
		{Kind: 1, Floor: 2, Dir: 1}, {Kind: 2, Floor: 8, Dir: 2}, {Kind: 3, Floor: 1, Dir: 1, Car: -2}, {Kind: 3, Floor: 1, Dir: 2, Car: 4},
		{Kind: 4, Car: 4, Value: 4}, {Kind: 5, Value: 1}, {Kind: 6, Car: 2}, {Kind: 7, Floor: 7, Dir: 1, Value: 255},
	} {
		for at := range 5 {
			for v := range 256 {
				l := []byte(bytesOf(start)[:5])
				l[at] = byte(v)
				s := sealed(l...)
				if r := recordOf(s); known[r] {
					expectDecode(t, b, s, r, api.OK)
				} else {
					expectNone(t, b, s, api.ErrCorrupt)
				}
			}
		}
	}
}

// P9.2: what is a record in one building need not be one in another.
func TestDecodeElsewhere(t *testing.T) {
	for _, b := range houses() {
		for _, other := range houses() {
			known := set(other)
			for _, r := range valid(b) {
				if s := bytesOf(r); known[r] {
					expectDecode(t, other, s, r, api.OK)
				} else {
					expectNone(t, other, s, api.ErrCorrupt)
					expectRecord(t, other, r, false)
				}
			}
		}
	}
}

// The chapter's consequence: records and their bytes correspond to each other one to one.
func TestOneToOne(t *testing.T) {
	for _, b := range houses() {
		from := map[string]api.Record{}
		for _, r := range valid(b) {
			s, _ := record.Encode(b, r)
			if other, found := from[s]; found || len(s) != 6 {
				t.Errorf("Encode of %+v: got %x, as of %+v", r, s, other)
			}
			from[s] = r
			back, _ := record.Decode(b, s)
			if again, _ := record.Encode(b, back); back != r || again != s {
				t.Errorf("%+v becomes %x, then %+v, then %x", r, s, back, again)
			}
		}
	}
}

// The chapter's consequence: a record with one changed bit is not read.
func TestOneChangedBit(t *testing.T) {
	for _, b := range []api.Building{house(2, 1), house(32, 8)} {
		for _, r := range valid(b) {
			for bit := range 48 {
				s := changed(bytesOf(r), bit)
				expectNone(t, b, s, api.ErrSum)
				if l, n := record.Read(b, s); len(l) != 0 || n != 0 {
					t.Errorf("Read of %x: got %+v and %d, want none", s, l, n)
				}
			}
		}
	}
}

// changed returns s with another bit.
func changed(s string, bit int) string {
	l := []byte(s)
	l[bit/8] ^= 1 << (bit % 8)
	return string(l)
}

// R3: the building is not changed, nor what lies behind its cars.
func TestBuildingStays(t *testing.T) {
	whole := house(4, 3)
	whole.Cars[2] = api.Car{Home: 99}
	b := whole
	b.Cars = whole.Cars[:2]
	before := fmt.Sprintf("%+v", whole)
	for _, r := range valid(b) {
		s, _ := record.Encode(b, r)
		record.Valid(b, r)
		record.Decode(b, s)
		record.Read(b, s+s)
	}
	if after := fmt.Sprintf("%+v", whole); after != before {
		t.Errorf("the building has changed from %s to %s", before, after)
	}
}

// R5: the same arguments give the same results, whatever has been called in between.
func TestSameResults(t *testing.T) {
	b, good := house(4, 2), bytesOf(api.Record{Kind: 3, Floor: 1, Dir: 1, Car: -1})
	results := func() string {
		text := ""
		for _, r := range []api.Record{{}, {Kind: 1, Floor: 1, Dir: 2}, {Kind: 4, Car: 1, Value: 2}, {Kind: 7, Floor: 1, Dir: 1, Value: 256}} {
			s, e := record.Encode(b, r)
			text += fmt.Sprintf("%v %x %d ", record.Valid(b, r), s, e)
		}
		for _, s := range []string{"", good, good + good, good + "x", changed(good, 3), sealed(9, 0, 0, 2, 0)} {
			r, e := record.Decode(b, s)
			l, n := record.Read(b, s)
			text += fmt.Sprintf("%+v %d %+v %d ", r, e, l, n)
		}
		return text
	}
	first := results()
	for _, other := range houses() {
		record.Read(other, good+good)
		record.Decode(other, "x")
		record.Encode(other, api.Record{Kind: 4, Value: 3})
	}
	if second := results(); first != second {
		t.Errorf("the results changed from %s to %s", first, second)
	}
}
