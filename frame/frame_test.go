package frame_test

import (
	"fmt"
	"math"
	"math/rand"
	"reflect"
	"strings"
	"testing"

	"overlay/api"
	"overlay/crc"
	"overlay/frame"
)

// house returns a valid building.
func house(floors, cars int) api.Building {
	b := api.Building{Floors: floors, Debounce: 1, Room: 1000, Park: 1, Empty: 0.125, Full: 0.75, Over: 1.125}
	for range cars {
		b.Cars = append(b.Cars, api.Car{Deadline: 100, Pulse: 1, Quiet: 1, Step: 4, Travel: 2, Dwell: 10, Hold: 10})
	}
	return b
}

// houses are buildings at both ends of the ranges of floors and cars, and between them.
func houses() []api.Building {
	return []api.Building{house(2, 1), house(3, 1), house(4, 2), house(9, 3), house(17, 8), house(31, 4), house(32, 1), house(32, 8)}
}

// noHouses returns a building for each error of building.Valid.
func noHouses() map[string]api.Building {
	l := map[string]api.Building{"no building": {}, "no cars": house(5, 0), "nine cars": house(5, 9), "a floor": house(1, 3), "33 floors": house(33, 3)}
	for name, spoil := range map[string]func(b *api.Building){
		"ErrTimes": func(b *api.Building) { b.Cars[2].Home = 5 },
		"ErrLoads": func(b *api.Building) { b.Full = math.NaN() },
		"ErrRoom":  func(b *api.Building) { b.Room = 77 },
	} {
		b := house(5, 3)
		spoil(&b)
		l[name] = b
	}
	return l
}

// floorBits and hallBits are the sets of floors and of hall calls, counted one by one.
func floorBits(b api.Building) uint32 {
	set := uint32(0)
	for f := range b.Floors {
		set |= 1 << f
	}
	return set
}

func hallBits(b api.Building) api.Calls {
	all := floorBits(b)
	return api.Calls{Up: all - 1<<(b.Floors-1), Down: all - 1}
}

// put returns s with another byte at a place.
func put(s string, at int, v byte) string {
	return s[:at] + string([]byte{v}) + s[at+1:]
}

// reseal returns a frame with another byte at a place and the sum that fits.
func reseal(s string, at int, v byte) string {
	return crc.Seal(put(s[:len(s)-2], at, v))
}

// allowed tells the values that a byte of a frame may have.
type allowed func(v byte) bool

func bitsOf(set byte) allowed { return func(v byte) bool { return v&^set == 0 } }

func upTo(last int) allowed { return func(v byte) bool { return int(v) <= last } }

func anything(byte) bool { return true }

// setOf are the bytes of a set of floors.
func setOf(set uint32) []allowed {
	return []allowed{bitsOf(byte(set)), bitsOf(byte(set >> 8)), bitsOf(byte(set >> 16)), bitsOf(byte(set >> 24))}
}

// kind is one of the two kinds of frames, as functions that tell of any frame or value what the tests compare.
type kind struct {
	name   string
	mark   byte
	size   func(b api.Building) int
	some   func(b api.Building, r *rand.Rand) any
	form   func(b api.Building, x any) string // the frame, by the chapter's definition
	bytes  func(b api.Building) []allowed     // of a frame, without the first two and the sum
	write  func(b api.Building, x any) (string, api.Errno)
	read   func(b api.Building, s string) (any, api.Errno)
	cars   func(x any) int
	equal  func(x, y any) bool
	nought any
}

func kinds() []kind { return []kind{inKind(), outKind()} }

// anyFrame returns a frame of the kind for b; the operator's command is OpReset for car 0.
func (k kind) anyFrame(b api.Building) string {
	return k.form(b, k.some(b, rand.New(rand.NewSource(int64(b.Floors)))))
}

func (k kind) expectRefused(t *testing.T, what string, b api.Building, s string, want api.Errno) {
	t.Helper()
	if x, e := k.read(b, s); e != want || !reflect.DeepEqual(x, k.nought) {
		t.Errorf("Read%s, %s: got %+v and %d, want nothing and %d", k.name, what, x, e, want)
	}
}

// P3.1: the chapter's example, every number of cars, and floors that do not matter.
func TestSize(t *testing.T) {
	ins, outs := []int{33, 52, 71, 90, 109, 128, 147, 166}, []int{42, 61, 80, 99, 118, 137, 156, 175}
	for _, floors := range []int{2, 3, 16, 31, 32} {
		for n := 1; n <= 8; n++ {
			if in, out := frame.Size(house(floors, n)); in != ins[n-1] || out != outs[n-1] {
				t.Errorf("Size, %d floors, %d cars: got %d and %d, want %d and %d", floors, n, in, out, ins[n-1], outs[n-1])
			}
		}
	}
	for name, b := range noHouses() {
		if in, out := frame.Size(b); in != 0 || out != 0 {
			t.Errorf("Size, %s: got %d and %d, want 0 and 0", name, in, out)
		}
	}
}

// P3.1 to P3.3: what is written has the bytes of the definition and the size that Size tells, and it is read as what was written.
func TestFramesOfAllBuildings(t *testing.T) {
	r := rand.New(rand.NewSource(3))
	for _, k := range kinds() {
		for _, b := range houses() {
			for range 200 {
				x := k.some(b, r)
				want := k.form(b, x)
				s, e := k.write(b, x)
				if s != want || e != api.OK || len(s) != k.size(b) {
					t.Fatalf("%s of %+v: got %x and %d, want %x", k.name, x, s, e, want)
				}
				if y, e := k.read(b, want); e != api.OK || !k.equal(x, y) {
					t.Fatalf("Read%s of %x: got %+v and %d, want %+v", k.name, want, y, e, x)
				}
			}
		}
	}
}

// P3.2: a building that is not valid, or another number of cars.
func TestWriteForNoBuilding(t *testing.T) {
	r := rand.New(rand.NewSource(4))
	expect := func(k kind, what string, b api.Building, x any) {
		t.Helper()
		if s, e := k.write(b, x); s != "" || e != api.ErrArg {
			t.Errorf("%s, %s: got %q and %d, want ErrArg", k.name, what, s, e)
		}
	}
	for _, k := range kinds() {
		for name, b := range noHouses() {
			expect(k, name, b, k.some(house(5, max(1, len(b.Cars))), r))
			expect(k, name, b, k.nought)
		}
		for n := 1; n <= 8; n++ {
			for _, other := range []int{1, 2, 3, 4, 5, 6, 7, 8, 9, n + 256, 1000} {
				if other != n {
					expect(k, fmt.Sprintf("%d elements for %d cars", other, n), house(5, n), k.some(house(5, other), r))
				}
			}
			expect(k, fmt.Sprintf("no elements for %d cars", n), house(5, n), k.nought)
		}
	}
}

// P3.3: every value of every byte behind the head is either refused, or read as something that has this frame and no other.
func TestReadEveryByte(t *testing.T) {
	for _, k := range kinds() {
		for _, b := range []api.Building{house(2, 1), house(5, 2), house(9, 3), house(17, 1), house(24, 2), house(31, 1), house(32, 2)} {
			s := k.anyFrame(b)
			bytes := k.bytes(b)
			if len(bytes) != len(s)-4 {
				t.Fatalf("%s: the test knows %d bytes of %d", k.name, len(bytes), len(s)-4)
			}
			for i, may := range bytes {
				for v := range 256 {
					changed := reseal(s, i+2, byte(v))
					what := fmt.Sprintf("%d floors, %d cars, byte %d is %#02x", b.Floors, len(b.Cars), i+2, v)
					if !may(byte(v)) {
						k.expectRefused(t, what, b, changed, api.ErrValue)
						continue
					}
					x, e := k.read(b, changed)
					if e != api.OK || k.cars(x) != len(b.Cars) || k.form(b, x) != changed {
						t.Errorf("Read%s, %s: got %+v and %d", k.name, what, x, e)
					}
				}
			}
		}
	}
}

// P3.3: a building that is not valid is refused first, whatever the string is.
func TestReadForNoBuilding(t *testing.T) {
	for _, k := range kinds() {
		for name, b := range noHouses() {
			for _, s := range []string{"", "x", k.anyFrame(house(5, 3)), k.anyFrame(house(5, max(1, len(b.Cars)))), strings.Repeat("\xff", k.size(house(5, 3)))} {
				k.expectRefused(t, name, b, s, api.ErrArg)
			}
		}
	}
}

// P3.3: all other lengths than that of the frame, also with a head and a sum that fit.
func TestReadOtherSizes(t *testing.T) {
	for _, k := range kinds() {
		b := house(5, 3)
		s := k.anyFrame(b)
		for n := range 3 * len(s) {
			if n == len(s) {
				continue
			}
			bytes := (s[:len(s)-2] + strings.Repeat("\x00", 3*len(s)))[:n]
			k.expectRefused(t, fmt.Sprint("size ", n), b, bytes, api.ErrSize)
			if n >= 2 {
				k.expectRefused(t, fmt.Sprint("sealed, size ", n), b, crc.Seal(bytes[:n-2]), api.ErrSize)
			}
		}
		k.expectRefused(t, "a byte more", b, s+"\x00", api.ErrSize)
		k.expectRefused(t, "a byte less", b, s[:len(s)-1], api.ErrSize)
		for _, other := range kinds() {
			for n := 1; n <= 8; n++ {
				if other.name != k.name || n != 3 {
					k.expectRefused(t, fmt.Sprint("the frame of ", n, " cars"), b, other.anyFrame(house(5, n)), api.ErrSize)
				}
			}
		}
	}
}

// P3.3: every other first byte and every other number of cars, whether the sum fits or not.
func TestReadOtherHeads(t *testing.T) {
	for _, k := range kinds() {
		for _, b := range houses() {
			s := k.anyFrame(b)
			for v := range 256 {
				if byte(v) != k.mark {
					k.expectRefused(t, fmt.Sprint("first byte ", v), b, put(s, 0, byte(v)), api.ErrHead)
					k.expectRefused(t, fmt.Sprint("sealed, first byte ", v), b, reseal(s, 0, byte(v)), api.ErrHead)
				}
				if v != len(b.Cars) {
					k.expectRefused(t, fmt.Sprint("cars ", v), b, put(s, 1, byte(v)), api.ErrHead)
					k.expectRefused(t, fmt.Sprint("sealed, cars ", v), b, reseal(s, 1, byte(v)), api.ErrHead)
				}
			}
		}
	}
}

// P3.3: another sum, whether the values are allowed or not.
func TestReadOtherSums(t *testing.T) {
	for _, k := range kinds() {
		b := house(5, 3)
		s := k.anyFrame(b)
		for sum := range 1 << 16 {
			changed := s[:len(s)-2] + string([]byte{byte(sum >> 8), byte(sum)})
			if changed != s {
				k.expectRefused(t, fmt.Sprintf("sum %04x", sum), b, changed, api.ErrSum)
			}
		}
		for i := 2; i < len(s); i++ {
			for v := range 256 {
				if changed := put(s, i, byte(v)); changed != s {
					k.expectRefused(t, fmt.Sprintf("byte %d is %#02x", i, v), b, changed, api.ErrSum)
				}
			}
		}
	}
}

// P3.3: of several errors, the one that the chapter names first is returned.
func TestReadReturnsTheFirstError(t *testing.T) {
	errors := []api.Errno{api.ErrArg, api.ErrSize, api.ErrHead, api.ErrHead, api.ErrSum, api.ErrValue}
	for _, k := range kinds() {
		for set := 1; set < 1<<len(errors); set++ {
			has := func(i int) bool { return set>>i&1 == 1 }
			b := house(5, 3)
			s := k.anyFrame(b)
			text := s[:len(s)-2]
			if has(5) {
				text = put(text, 5, 0x80) // floor 31
			}
			if has(3) {
				text = put(text, 1, 2)
			}
			if has(2) {
				text = put(text, 0, k.mark^0xFF)
			}
			if has(1) {
				text += "\x00"
			}
			s = crc.Seal(text)
			if has(4) {
				s = put(s, len(s)-1, s[len(s)-1]^1)
			}
			if has(0) {
				b.Park = 0
			}
			want := api.OK
			for i := len(errors) - 1; i >= 0; i-- {
				if has(i) {
					want = errors[i]
				}
			}
			k.expectRefused(t, fmt.Sprintf("errors %06b", set), b, s, want)
		}
	}
}

// The chapter's consequence: one to sixteen changed neighbouring bits, and a frame is refused, from whichever end the bits of a byte are counted.
func TestNeighbouringBits(t *testing.T) {
	for _, k := range kinds() {
		for _, b := range []api.Building{house(5, 1), house(32, 2)} {
			s := k.anyFrame(b)
			for first := 0; first < 8*len(s); first++ {
				for pattern := 1; pattern < 1<<16; pattern = pattern*5/4 + 1 {
					for _, turn := range []int{0, 7} {
						changed := []byte(s)
						for i := range min(16, 8*len(s)-first) {
							if pattern>>i&1 == 1 {
								bit := (first + i) ^ turn
								changed[bit/8] ^= 1 << (bit % 8)
							}
						}
						if string(changed) == s {
							continue
						}
						if x, e := k.read(b, string(changed)); e != api.ErrHead && e != api.ErrSum || !reflect.DeepEqual(x, k.nought) {
							t.Fatalf("Read%s of %x for %x: got %+v and %d", k.name, changed, s, x, e)
						}
					}
				}
			}
		}
	}
}

// P1 and R1: no string makes a reader panic, sealed or not, and what it accepts is the frame of what it returns.
func TestReadAnyString(t *testing.T) {
	r := rand.New(rand.NewSource(5))
	for _, k := range kinds() {
		for _, b := range houses() {
			for range 2000 {
				l := make([]byte, k.size(b)-2)
				r.Read(l)
				l[0], l[1] = k.mark, byte(len(b.Cars))
				for i := 2; i < len(l); i++ { // few bits, so that some are accepted
					l[i] &= byte(r.Intn(256)) & byte(r.Intn(256)) & byte(r.Intn(4))
				}
				s := crc.Seal(string(l))
				x, e := k.read(b, s)
				if e == api.OK && k.form(b, x) != s || e != api.OK && (e != api.ErrValue || !reflect.DeepEqual(x, k.nought)) {
					t.Fatalf("Read%s of %x: got %+v and %d", k.name, s, x, e)
				}
			}
		}
	}
}
