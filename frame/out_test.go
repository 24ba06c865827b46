package frame_test

import (
	"encoding/binary"
	"fmt"
	"math"
	"math/rand"
	"reflect"
	"testing"

	"overlay/api"
	"overlay/crc"
	"overlay/frame"
)

// fewOuts are outputs for 5 floors and three cars that have another value in every field.
func fewOuts() api.Outputs {
	return api.Outputs{
		Lamps: api.Calls{Up: 0x0D, Down: 0x12}, Served: api.Calls{Up: 0x02, Down: 0x0C}, Full: true, Status: api.ErrBusy,
		Cars: []api.CarOutput{
			{Coils: api.Coils{Inject: api.Calls{Up: 0x05, Down: 0x06}, CutOut: true}, Lantern: api.Calls{Up: 0x03, Down: 0x18}, Command: api.CmdDown},
			{Coils: api.Coils{Inject: api.Calls{Down: 0x1E}}, Lantern: api.Calls{Up: 0x0F}, Gong: true, Command: api.CmdNudge, Phase: api.New},
			{Coils: api.Coils{Inject: api.Calls{Up: 0x08}}, Lantern: api.Calls{Down: 0x04}, Phase: api.Isolated, Flag: true},
		},
	}
}

// fewOutText is their frame without the sum.
const fewOutText = "\x5A\x03\x0D\x00\x00\x00\x12\x00\x00\x00\x02\x00\x00\x00\x0C\x00\x00\x00\x02\x05\x01" +
	"\x05\x00\x00\x00\x06\x00\x00\x00\x03\x00\x00\x00\x18\x00\x00\x00\x01\x02\x00" +
	"\x00\x00\x00\x00\x1E\x00\x00\x00\x0F\x00\x00\x00\x00\x00\x00\x00\x02\x05\x04" +
	"\x08\x00\x00\x00\x00\x00\x00\x00\x00\x00\x00\x00\x04\x00\x00\x00\x04\x00\x02"

func outKind() kind {
	return kind{
		name: "Out", mark: 0x5A, nought: api.Outputs{},
		size:  func(b api.Building) int { _, n := frame.Size(b); return n },
		some:  func(b api.Building, r *rand.Rand) any { return someOuts(b, r) },
		form:  func(b api.Building, x any) string { return outForm(x.(api.Outputs)) },
		bytes: outBytes,
		write: func(b api.Building, x any) (string, api.Errno) { return frame.Out(b, x.(api.Outputs)) },
		read:  func(b api.Building, s string) (any, api.Errno) { return frame.ReadOut(b, s) },
		cars:  func(x any) int { return len(x.(api.Outputs).Cars) },
		equal: func(x, y any) bool { return reflect.DeepEqual(x, y) },
	}
}

func someOuts(b api.Building, r *rand.Rand) api.Outputs {
	some := func() api.Calls {
		return api.Calls{Up: r.Uint32() & hallBits(b).Up, Down: r.Uint32() & hallBits(b).Down}
	}
	bits := r.Uint32()
	x := api.Outputs{Lamps: some(), Served: some(), Bad: bits&1 != 0, Full: bits&2 != 0, Status: api.Errno(r.Intn(65536))}
	for range b.Cars {
		bits = r.Uint32()
		x.Cars = append(x.Cars, api.CarOutput{
			Coils: api.Coils{Inject: some(), CutOut: bits&1 != 0}, Lantern: some(), Gong: bits&2 != 0, Flag: bits&4 != 0,
			Command: r.Intn(6), Phase: r.Intn(5),
		})
	}
	return x
}

// outForm writes the frame as the chapter defines it: the second way to the same bytes.
func outForm(x api.Outputs) string {
	s := []byte{0x5A, byte(len(x.Cars))}
	for _, set := range []uint32{x.Lamps.Up, x.Lamps.Down, x.Served.Up, x.Served.Down} {
		s = binary.LittleEndian.AppendUint32(s, set)
	}
	s = append(s, flagByte(x.Bad, x.Full))
	s = binary.LittleEndian.AppendUint16(s, uint16(x.Status))
	for _, c := range x.Cars {
		for _, set := range []uint32{c.Coils.Inject.Up, c.Coils.Inject.Down, c.Lantern.Up, c.Lantern.Down} {
			s = binary.LittleEndian.AppendUint32(s, set)
		}
		s = append(s, flagByte(c.Coils.CutOut, c.Gong, c.Flag), byte(c.Command), byte(c.Phase))
	}
	return crc.Seal(string(s))
}

// outBytes tells of every byte behind the first two what it may be.
func outBytes(b api.Building) []allowed {
	var calls, l []allowed
	for range 2 {
		calls = append(calls, setOf(hallBits(b).Up)...)
		calls = append(calls, setOf(hallBits(b).Down)...)
	}
	l = append(l, calls...)
	l = append(l, bitsOf(0x03), anything, anything)
	for range b.Cars {
		l = append(l, calls...)
		l = append(l, bitsOf(0x07), upTo(5), upTo(4))
	}
	return l
}

// P3.2 and P3.3: the bytes of a frame with three cars, one by one.
func TestBytesOfOutputs(t *testing.T) {
	b, want := house(5, 3), crc.Seal(fewOutText)
	if s, e := frame.Out(b, fewOuts()); s != want || e != api.OK {
		t.Errorf("Out: got %x and %d, want %x", s, e, want)
	}
	if x, e := frame.ReadOut(b, want); e != api.OK || !reflect.DeepEqual(x, fewOuts()) {
		t.Errorf("ReadOut: got %+v and %d, want %+v", x, e, fewOuts())
	}
}

// P3.2 and P3.3: a frame with all values zero, and one with every set and number at its upper end.
func TestEndsOfOutputs(t *testing.T) {
	least := api.Outputs{Cars: make([]api.CarOutput, 1)}
	text := "\x5A\x01" + string(make([]byte, 38))
	if s, e := frame.Out(house(2, 1), least); s != crc.Seal(text) || len(s) != 42 || e != api.OK {
		t.Errorf("Out of nothing: got %x and %d", s, e)
	}
	if x, e := frame.ReadOut(house(2, 1), crc.Seal(text)); e != api.OK || !reflect.DeepEqual(x, least) {
		t.Errorf("ReadOut of nothing: got %+v and %d", x, e)
	}
	b, all := house(32, 8), api.Calls{Up: 0x7FFFFFFF, Down: 0xFFFFFFFE}
	most := api.Outputs{Lamps: all, Served: all, Bad: true, Full: true, Status: 65535}
	const both = "\xFF\xFF\xFF\x7F\xFE\xFF\xFF\xFF"
	text = "\x5A\x08" + both + both + "\x03\xFF\xFF"
	for range 8 {
		most.Cars = append(most.Cars, api.CarOutput{Coils: api.Coils{Inject: all, CutOut: true}, Lantern: all, Gong: true, Command: 5, Phase: 4, Flag: true})
		text += both + both + "\x07\x05\x04"
	}
	if s, e := frame.Out(b, most); s != crc.Seal(text) || e != api.OK {
		t.Errorf("Out of all: got %x and %d", s, e)
	}
	if x, e := frame.ReadOut(b, crc.Seal(text)); e != api.OK || !reflect.DeepEqual(x, most) {
		t.Errorf("ReadOut of all: got %+v and %d", x, e)
	}
}

// P3.2: every number of the outputs at and outside of its ends; larger ones do not count by their last bytes.
func TestNumbersOfOutputs(t *testing.T) {
	b := house(5, 3)
	for _, f := range []struct {
		name string
		last int
		set  func(x *api.Outputs, v int)
	}{
		{"Status", 65535, func(x *api.Outputs, v int) { x.Status = api.Errno(v) }},
		{"Command of the first car", 5, func(x *api.Outputs, v int) { x.Cars[0].Command = v }},
		{"Command of the last car", 5, func(x *api.Outputs, v int) { x.Cars[2].Command = v }},
		{"Phase of the first car", 4, func(x *api.Outputs, v int) { x.Cars[0].Phase = v }},
		{"Phase of the last car", 4, func(x *api.Outputs, v int) { x.Cars[2].Phase = v }},
	} {
		for _, v := range []int{math.MinInt, -1 << 32, -65536, -256, -255, -1, 0, 1, f.last, f.last + 1, 255, 256, 257, 1 << 16, 1<<16 + 1, 1 << 32, 1<<32 + 1, math.MaxInt} {
			x := fewOuts()
			f.set(&x, v)
			want, wantError := "", api.ErrArg
			if v >= 0 && v <= f.last {
				want, wantError = outForm(x), api.OK
			}
			if s, e := frame.Out(b, x); s != want || e != wantError {
				t.Errorf("Out, %s is %d: got %x and %d, want %d", f.name, v, s, e, wantError)
			}
		}
	}
}

// P3.2: every single bit of the sets of the outputs.
func TestSetsOfOutputs(t *testing.T) {
	for _, b := range houses() {
		last := len(b.Cars) - 1
		for _, f := range []struct {
			name string
			set  func(x *api.Outputs) *api.Calls
		}{
			{"Lamps", func(x *api.Outputs) *api.Calls { return &x.Lamps }},
			{"Served", func(x *api.Outputs) *api.Calls { return &x.Served }},
			{"Inject of the first car", func(x *api.Outputs) *api.Calls { return &x.Cars[0].Coils.Inject }},
			{"Inject of the last car", func(x *api.Outputs) *api.Calls { return &x.Cars[last].Coils.Inject }},
			{"Lantern of the first car", func(x *api.Outputs) *api.Calls { return &x.Cars[0].Lantern }},
			{"Lantern of the last car", func(x *api.Outputs) *api.Calls { return &x.Cars[last].Lantern }},
		} {
			for floor := range 32 {
				for _, calls := range []api.Calls{{Up: 1 << floor}, {Down: 1 << floor}} {
					x := api.Outputs{Cars: make([]api.CarOutput, len(b.Cars))}
					*f.set(&x) = calls
					want, wantError := "", api.ErrArg
					if calls.Up&^hallBits(b).Up == 0 && calls.Down&^hallBits(b).Down == 0 {
						want, wantError = outForm(x), api.OK
					}
					if s, e := frame.Out(b, x); s != want || e != wantError {
						t.Errorf("Out, %d floors, %s is %b: got %x and %d, want %d", b.Floors, f.name, calls, s, e, wantError)
					}
				}
			}
		}
	}
}

// P3.2 and P3.3: every Status, also those that are no error of the system.
func TestStatus(t *testing.T) {
	b := house(2, 1)
	for status := range 65536 {
		x := api.Outputs{Status: api.Errno(status), Cars: make([]api.CarOutput, 1)}
		if s, e := frame.Out(b, x); s != outForm(x) || e != api.OK {
			t.Fatalf("Out, status %d: got %x and %d", status, s, e)
		}
		if y, e := frame.ReadOut(b, outForm(x)); e != api.OK || !reflect.DeepEqual(x, y) {
			t.Fatalf("ReadOut, status %d: got %+v and %d", status, y, e)
		}
	}
}

// P1 and R1: numbers of any size make no function panic.
func TestAnyOutputs(t *testing.T) {
	for _, v := range []int{math.MinInt, -1, 0, 1, 63, 64, 255, 256, math.MaxInt} {
		all := api.Calls{Up: uint32(v), Down: uint32(v)}
		c := api.CarOutput{Coils: api.Coils{Inject: all}, Lantern: all, Command: v, Phase: v}
		x := api.Outputs{Lamps: all, Served: all, Status: api.Errno(v), Cars: []api.CarOutput{c, c, c}}
		for _, b := range []api.Building{house(5, 3), {Floors: v, Debounce: v, Cars: make([]api.Car, 3)}} {
			if s, e := frame.Out(b, x); v != 0 && (s != "" || e != api.ErrArg) {
				t.Errorf("Out, numbers %d: got %x and %d", v, s, e)
			}
		}
	}
}

// R3 and R5: arguments stay as they are, with the spare capacity of the cars, and results are new memory.
func TestOutputsStay(t *testing.T) {
	b, x := house(5, 3), fewOuts()
	b.Cars = append(make([]api.Car, 0, 8), b.Cars...)
	x.Cars = append(make([]api.CarOutput, 0, 8), x.Cars...)
	before := fmt.Sprintf("%+v %+v", b.Cars[:8], x.Cars[:8])
	s, _ := frame.Out(b, x)
	x.Cars[1].Phase = 9
	frame.Out(b, x)
	x.Cars[1].Phase = api.New
	if after := fmt.Sprintf("%+v %+v", b.Cars[:8], x.Cars[:8]); after != before {
		t.Errorf("the arguments changed from %s to %s", before, after)
	}
	first, _ := frame.ReadOut(b, s)
	for i := range first.Cars {
		first.Cars[i] = api.CarOutput{Command: 99}
	}
	if second, e := frame.ReadOut(b, s); e != api.OK || !reflect.DeepEqual(second, fewOuts()) {
		t.Errorf("the result changed to %+v and %d", second, e)
	}
	if again, e := frame.Out(b, x); again != s || e != api.OK {
		t.Errorf("the result changed from %x to %x and %d", s, again, e)
	}
}
