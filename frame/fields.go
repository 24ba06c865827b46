package frame

import (
	"math"

	"overlay/api"
	"overlay/building"
)

const maxStatus = 1<<16 - 1

// carrier takes numbers of some bytes into a frame or out of it, the lowest byte first.
type carrier interface {
	// carry returns the number that the frame has next: what was given, or what was read.
	carry(number uint64, size int) uint64
}

type writer struct{ text []byte }

// carry returns the whole number, also the part without room in its bytes, so that its range can be checked.
func (w *writer) carry(number uint64, size int) uint64 {
	for i := range size {
		w.text = append(w.text, byte(number>>(8*i)))
	}
	return number
}

type reader struct{ rest string }

func (r *reader) carry(_ uint64, size int) uint64 {
	number := uint64(0)
	for i := range size {
		number |= uint64(r.rest[i]) << (8 * i)
	}
	r.rest = r.rest[size:]
	return number
}

// fields carries the fields of a frame, and panics with refused at the first value that is not allowed.
type fields struct {
	carrier
	building api.Building
	hall     api.Calls
	refusal  api.Errno // the error of a value that is not allowed
}

type refused struct{ code api.Errno }

func fieldsOf(b api.Building, c carrier, refusal api.Errno) fields {
	return fields{carrier: c, building: b, hall: building.Hall(b), refusal: refusal}
}

// run carries the fields of a layout and returns the error of the first value that is not allowed, or OK.
func run(layout func(fields), f fields) (e api.Errno) {
	defer func() {
		cause := recover()
		if r, own := cause.(refused); own {
			e = r.code
		} else if cause != nil {
			e = api.ErrArg // no layout panics otherwise; but if one did, its caller must not (R1)
		}
	}()
	layout(f)
	return api.OK
}

func (f fields) expect(allowed bool) {
	if !allowed {
		panic(refused{f.refusal})
	}
}

// number carries a number from low to high.
func (f fields) number(x *int, size, low, high int) {
	n := int(f.carry(uint64(*x), size))
	f.expect(low <= n && n <= high)
	*x = n
}

func (f fields) status(x *api.Errno) {
	n := int(*x)
	f.number(&n, 2, 0, maxStatus)
	*x = api.Errno(n)
}

// set carries a set that has only bits of all.
func (f fields) set(x *uint32, all uint32) {
	s := uint32(f.carry(uint64(*x), 4))
	f.expect(s&^all == 0)
	*x = s
}

func (f fields) calls(x *api.Calls) {
	f.set(&x.Up, f.hall.Up)
	f.set(&x.Down, f.hall.Down)
}

func (f fields) floors(x *uint32) {
	f.set(x, f.hall.Up|f.hall.Down)
}

// flags carries a byte of which the bits from the lowest one on are flags, and the others are 0.
func (f fields) flags(l ...*bool) {
	bits := uint64(0)
	for i, x := range l {
		if *x {
			bits |= 1 << i
		}
	}
	bits = f.carry(bits, 1)
	f.expect(bits>>len(l) == 0)
	for i, x := range l {
		*x = bits>>i&1 == 1
	}
}

// load carries the bits and not the number: NaN has many bits, and 0 has two signs.
func (f fields) load(x *float64) {
	*x = math.Float64frombits(f.carry(math.Float64bits(*x), 8))
}
