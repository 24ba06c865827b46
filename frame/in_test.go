package frame_test

import (
	"encoding/binary"
	"fmt"
	"math"
	"math/rand"
	"reflect"
	"testing"

	"overlay/api"
	"overlay/crc"
	"overlay/frame"
)

// fewIns are inputs for 5 floors and three cars that have another value in every field.
func fewIns() api.Inputs {
	return api.Inputs{
		Press:   api.Calls{Up: 0x0D, Down: 0x12},
		Command: api.Command{Kind: api.OpAbort, Car: 2},
		Cars: []api.CarInput{
			{Contacts: api.Contacts{Floors: 0x04, Up: true}, Feedback: api.Feedback{Floor: 3, Level: true, Door: api.DoorOpen}, Calls: 0x15, Load: 1},
			{Contacts: api.Contacts{Floors: 0x1F, Down: true, Closed: true}, Feedback: api.Feedback{Door: api.DoorClosed, Block: true}, Calls: 0x0A, Load: -2},
			{Contacts: api.Contacts{Open: true}, Feedback: api.Feedback{Floor: 4}, Load: math.Float64frombits(0x0102030405060708)},
		},
	}
}

// fewInText is their frame without the sum.
const fewInText = "\xA5\x03\x0D\x00\x00\x00\x12\x00\x00\x00\x05\x02" +
	"\x04\x00\x00\x00\x11\x03\x01\x15\x00\x00\x00\x00\x00\x00\x00\x00\x00\xF0\x3F" +
	"\x1F\x00\x00\x00\x2A\x00\x02\x0A\x00\x00\x00\x00\x00\x00\x00\x00\x00\x00\xC0" +
	"\x00\x00\x00\x00\x04\x04\x00\x00\x00\x00\x00\x08\x07\x06\x05\x04\x03\x02\x01"

func inKind() kind {
	return kind{
		name: "In", mark: 0xA5, nought: api.Inputs{},
		size:  func(b api.Building) int { n, _ := frame.Size(b); return n },
		some:  func(b api.Building, r *rand.Rand) any { return someIns(b, r) },
		form:  func(b api.Building, x any) string { return inForm(x.(api.Inputs)) },
		bytes: inBytes,
		write: func(b api.Building, x any) (string, api.Errno) { return frame.In(b, x.(api.Inputs)) },
		read:  func(b api.Building, s string) (any, api.Errno) { return frame.ReadIn(b, s) },
		cars:  func(x any) int { return len(x.(api.Inputs).Cars) },
		equal: func(x, y any) bool { return sameIns(x.(api.Inputs), y.(api.Inputs)) },
	}
}

// someIns returns valid inputs. The car of the command is 0, so that every byte may have each of its values alone.
func someIns(b api.Building, r *rand.Rand) api.Inputs {
	all := hallBits(b)
	x := api.Inputs{Press: api.Calls{Up: r.Uint32() & all.Up, Down: r.Uint32() & all.Down}, Command: api.Command{Kind: api.OpReset}}
	for range b.Cars {
		bits := r.Uint32()
		x.Cars = append(x.Cars, api.CarInput{
			Contacts: api.Contacts{Floors: r.Uint32() & floorBits(b), Up: bits&1 != 0, Down: bits&2 != 0, Open: bits&4 != 0, Closed: bits&8 != 0},
			Feedback: api.Feedback{Floor: r.Intn(b.Floors), Level: bits&16 != 0, Door: r.Intn(3), Block: bits&32 != 0},
			Calls:    r.Uint32() & floorBits(b), Load: math.Float64frombits(r.Uint64()),
		})
	}
	return x
}

// inForm writes the frame as the chapter defines it: the second way to the same bytes.
func inForm(x api.Inputs) string {
	s := []byte{0xA5, byte(len(x.Cars))}
	s = binary.LittleEndian.AppendUint32(s, x.Press.Up)
	s = binary.LittleEndian.AppendUint32(s, x.Press.Down)
	s = append(s, byte(x.Command.Kind), byte(x.Command.Car))
	for _, c := range x.Cars {
		s = binary.LittleEndian.AppendUint32(s, c.Contacts.Floors)
		s = append(s, flagByte(c.Contacts.Up, c.Contacts.Down, c.Contacts.Open, c.Contacts.Closed, c.Feedback.Level, c.Feedback.Block))
		s = append(s, byte(c.Feedback.Floor), byte(c.Feedback.Door))
		s = binary.LittleEndian.AppendUint32(s, c.Calls)
		s = binary.LittleEndian.AppendUint64(s, math.Float64bits(c.Load))
	}
	return crc.Seal(string(s))
}

// flagByte counts 1 for the first flag, 2 for the second one, 4 for the third one, and so on.
func flagByte(l ...bool) byte {
	sum, value := byte(0), byte(1)
	for _, on := range l {
		if on {
			sum += value
		}
		value *= 2
	}
	return sum
}

// inBytes tells of every byte behind the first two what it may be, if Kind is OpReset and Car is 0.
func inBytes(b api.Building) []allowed {
	all := hallBits(b)
	l := append(setOf(all.Up), setOf(all.Down)...)
	l = append(l, upTo(8), upTo(len(b.Cars)-1))
	for range b.Cars {
		l = append(l, setOf(floorBits(b))...)
		l = append(l, bitsOf(0x3F), upTo(b.Floors-1), upTo(2))
		l = append(l, setOf(floorBits(b))...)
		for range 8 {
			l = append(l, anything)
		}
	}
	return l
}

// sameIns compares the bits of the loads: NaN is not equal to itself, and both zeros are equal.
func sameIns(x, y api.Inputs) bool {
	loads := func(x api.Inputs) (api.Inputs, []uint64) {
		var l []uint64
		x.Cars = append([]api.CarInput(nil), x.Cars...)
		for i := range x.Cars {
			l = append(l, math.Float64bits(x.Cars[i].Load))
			x.Cars[i].Load = 0
		}
		return x, l
	}
	restX, loadsX := loads(x)
	restY, loadsY := loads(y)
	return reflect.DeepEqual(restX, restY) && reflect.DeepEqual(loadsX, loadsY)
}

// P3.2 and P3.3: the bytes of a frame with three cars, one by one.
func TestBytesOfInputs(t *testing.T) {
	b, want := house(5, 3), crc.Seal(fewInText)
	if s, e := frame.In(b, fewIns()); s != want || e != api.OK {
		t.Errorf("In: got %x and %d, want %x", s, e, want)
	}
	if x, e := frame.ReadIn(b, want); e != api.OK || !sameIns(x, fewIns()) {
		t.Errorf("ReadIn: got %+v and %d, want %+v", x, e, fewIns())
	}
}

// P3.2 and P3.3: the chapter's example, with all values zero, and a frame with every set and number at its upper end.
func TestEndsOfInputs(t *testing.T) {
	least := api.Inputs{Cars: make([]api.CarInput, 1)}
	text := "\xA5\x01" + string(make([]byte, 29))
	if s, e := frame.In(house(2, 1), least); s != crc.Seal(text) || len(s) != 33 || e != api.OK {
		t.Errorf("In of nothing: got %x and %d", s, e)
	}
	if x, e := frame.ReadIn(house(2, 1), crc.Seal(text)); e != api.OK || !sameIns(x, least) {
		t.Errorf("ReadIn of nothing: got %+v and %d", x, e)
	}
	b := house(32, 8)
	most := api.Inputs{Press: api.Calls{Up: 0x7FFFFFFF, Down: 0xFFFFFFFE}, Command: api.Command{Kind: 8, Car: 7}}
	text = "\xA5\x08\xFF\xFF\xFF\x7F\xFE\xFF\xFF\xFF\x08\x07"
	for range 8 {
		most.Cars = append(most.Cars, api.CarInput{
			Contacts: api.Contacts{Floors: 0xFFFFFFFF, Up: true, Down: true, Open: true, Closed: true},
			Feedback: api.Feedback{Floor: 31, Level: true, Door: 2, Block: true},
			Calls:    0xFFFFFFFF, Load: math.Float64frombits(0xFFFFFFFFFFFFFFFF),
		})
		text += "\xFF\xFF\xFF\xFF\x3F\x1F\x02\xFF\xFF\xFF\xFF\xFF\xFF\xFF\xFF\xFF\xFF\xFF\xFF"
	}
	if s, e := frame.In(b, most); s != crc.Seal(text) || e != api.OK {
		t.Errorf("In of all: got %x and %d", s, e)
	}
	if x, e := frame.ReadIn(b, crc.Seal(text)); e != api.OK || !sameIns(x, most) {
		t.Errorf("ReadIn of all: got %+v and %d", x, e)
	}
}

// P3.2: every number of the inputs at and outside of its ends; larger ones do not count by their last byte.
func TestNumbersOfInputs(t *testing.T) {
	b := house(5, 3)
	for _, f := range []struct {
		name  string
		last  int
		field func(x *api.Inputs) *int
	}{
		{"Kind", 8, func(x *api.Inputs) *int { return &x.Command.Kind }},
		{"Car", 2, func(x *api.Inputs) *int { return &x.Command.Car }},
		{"Floor of the first car", 4, func(x *api.Inputs) *int { return &x.Cars[0].Feedback.Floor }},
		{"Floor of the last car", 4, func(x *api.Inputs) *int { return &x.Cars[2].Feedback.Floor }},
		{"Door of the first car", 2, func(x *api.Inputs) *int { return &x.Cars[0].Feedback.Door }},
		{"Door of the last car", 2, func(x *api.Inputs) *int { return &x.Cars[2].Feedback.Door }},
	} {
		for _, v := range []int{math.MinInt, -1 << 32, -256, -255, -1, 0, 1, f.last, f.last + 1, 127, 128, 255, 256, 257, 1 << 16, 1 << 32, 1<<32 + 1, math.MaxInt} {
			x := fewIns()
			x.Command = api.Command{Kind: api.OpReset}
			*f.field(&x) = v
			want, wantError := "", api.ErrArg
			if v >= 0 && v <= f.last {
				want, wantError = inForm(x), api.OK
			}
			if s, e := frame.In(b, x); s != want || e != wantError {
				t.Errorf("In, %s is %d: got %x and %d, want %d", f.name, v, s, e, wantError)
			}
		}
	}
}

// P3.2: every single bit of the sets of the inputs.
func TestSetsOfInputs(t *testing.T) {
	for _, b := range houses() {
		last := len(b.Cars) - 1
		for _, f := range []struct {
			name string
			all  uint32
			set  func(x *api.Inputs) *uint32
		}{
			{"Press.Up", hallBits(b).Up, func(x *api.Inputs) *uint32 { return &x.Press.Up }},
			{"Press.Down", hallBits(b).Down, func(x *api.Inputs) *uint32 { return &x.Press.Down }},
			{"Floors of the first car", floorBits(b), func(x *api.Inputs) *uint32 { return &x.Cars[0].Contacts.Floors }},
			{"Floors of the last car", floorBits(b), func(x *api.Inputs) *uint32 { return &x.Cars[last].Contacts.Floors }},
			{"Calls of the first car", floorBits(b), func(x *api.Inputs) *uint32 { return &x.Cars[0].Calls }},
			{"Calls of the last car", floorBits(b), func(x *api.Inputs) *uint32 { return &x.Cars[last].Calls }},
		} {
			for floor := range 32 {
				x := api.Inputs{Cars: make([]api.CarInput, len(b.Cars))}
				*f.set(&x) = 1 << floor
				want, wantError := "", api.ErrArg
				if f.all>>floor&1 == 1 {
					want, wantError = inForm(x), api.OK
				}
				if s, e := frame.In(b, x); s != want || e != wantError {
					t.Errorf("In, %d floors, floor %d in %s: got %x and %d, want %d", b.Floors, floor, f.name, s, e, wantError)
				}
			}
		}
	}
}

// P3.2 and P3.3: OpNone is for car 0, and every other command for any car.
func TestCommands(t *testing.T) {
	for _, b := range []api.Building{house(5, 1), house(5, 3), house(5, 8)} {
		x := someIns(b, rand.New(rand.NewSource(1)))
		for kind := range 256 {
			for car := range 256 {
				x.Command = api.Command{Kind: kind, Car: car}
				good := kind == 0 && car == 0 || kind >= 1 && kind <= 8 && car < len(b.Cars)
				want := inForm(x)
				s, e := frame.In(b, x)
				y, f := frame.ReadIn(b, want)
				if good && (s != want || e != api.OK || f != api.OK || !sameIns(x, y)) {
					t.Errorf("command %d for car %d of %d: got %x, %d and %+v, %d", kind, car, len(b.Cars), s, e, y, f)
				}
				if !good && (s != "" || e != api.ErrArg || f != api.ErrValue || !reflect.DeepEqual(y, api.Inputs{})) {
					t.Errorf("command %d for car %d of %d is not refused: got %x, %d and %+v, %d", kind, car, len(b.Cars), s, e, y, f)
				}
			}
		}
	}
}

// P3.2 and P3.3: a load keeps its bits, whatever number it is, and in the right car.
func TestLoadsOfInputs(t *testing.T) {
	b := house(5, 3)
	for _, bits := range []uint64{
		0, 1, 1 << 63, 1<<63 | 1, 0x3FF0000000000000, 0x0102030405060708, 0x8070605040302010,
		math.Float64bits(math.Inf(1)), math.Float64bits(math.Inf(-1)), math.Float64bits(math.MaxFloat64), math.Float64bits(math.NaN()),
		0x7FF0000000000001, 0xFFF0000000000001, 0x7FF7FFFFFFFFFFFF, 0x7FF8000000000000, 0xFFF8000000000123, 0x7FFFFFFFFFFFFFFF, 0xFFFFFFFFFFFFFFFF,
	} {
		for car := range 3 {
			x := fewIns()
			x.Cars[car].Load = math.Float64frombits(bits)
			s, e := frame.In(b, x)
			if s != inForm(x) || e != api.OK {
				t.Errorf("In, load %#x: got %x and %d", bits, s, e)
			}
			if y, e := frame.ReadIn(b, inForm(x)); e != api.OK || !sameIns(x, y) {
				t.Errorf("ReadIn, load %#x: got %+v and %d", bits, y, e)
			}
		}
	}
}

// P1 and R1: numbers of any size make no function panic.
func TestAnyInputs(t *testing.T) {
	for _, v := range []int{math.MinInt, -1, 0, 1, 63, 64, 255, 256, math.MaxInt} {
		c := api.CarInput{Contacts: api.Contacts{Floors: uint32(v)}, Feedback: api.Feedback{Floor: v, Door: v}, Calls: uint32(v), Load: float64(v)}
		x := api.Inputs{Press: api.Calls{Up: uint32(v), Down: uint32(v)}, Command: api.Command{Kind: v, Car: v}, Cars: []api.CarInput{c, c, c}}
		for _, b := range []api.Building{house(5, 3), {Floors: v, Debounce: v, Cars: make([]api.Car, 3)}} {
			if s, e := frame.In(b, x); v != 0 && (s != "" || e != api.ErrArg) {
				t.Errorf("In, numbers %d: got %x and %d", v, s, e)
			}
		}
	}
}

// R3 and R5: arguments stay as they are, with the spare capacity of the cars, and results are new memory.
func TestInputsStay(t *testing.T) {
	b, x := house(5, 3), fewIns()
	b.Cars = append(make([]api.Car, 0, 8), b.Cars...)
	x.Cars = append(make([]api.CarInput, 0, 8), x.Cars...)
	before := fmt.Sprintf("%+v %+v", b.Cars[:8], x.Cars[:8])
	s, _ := frame.In(b, x)
	x.Cars[1].Feedback.Floor = 9
	frame.In(b, x)
	x.Cars[1].Feedback.Floor = 0
	if after := fmt.Sprintf("%+v %+v", b.Cars[:8], x.Cars[:8]); after != before {
		t.Errorf("the arguments changed from %s to %s", before, after)
	}
	first, _ := frame.ReadIn(b, s)
	for i := range first.Cars {
		first.Cars[i] = api.CarInput{Calls: 99}
	}
	if second, e := frame.ReadIn(b, s); e != api.OK || !sameIns(second, fewIns()) {
		t.Errorf("the result changed to %+v and %d", second, e)
	}
	if again, e := frame.In(b, x); again != s || e != api.OK {
		t.Errorf("the result changed from %x to %x and %d", s, again, e)
	}
}
