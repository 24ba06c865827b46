package crc_test

import (
	"fmt"
	"strings"
	"testing"

	"overlay/api"
	"overlay/crc"
)

// allBytes is a string of every byte, which is not valid UTF-8.
func allBytes() string {
	b := make([]byte, 256)
	for i := range b {
		b[i] = byte(i)
	}
	return string(b)
}

// mixed returns n bytes without a pattern that is easily seen.
func mixed(n int) string {
	b := make([]byte, n)
	for i := range b {
		b[i] = byte(i*i*7 + i>>3 + 0x3C)
	}
	return string(b)
}

// shortSamples are strings of all kinds: none, zeros, text of several bytes a letter, and what is no text.
func shortSamples() []string {
	return []string{
		"", "A", "\x00", "\x01", "\x80", "\xff", "\x00\x00\x00", "\xff\xff", "\xff\xff\xff\xff",
		"123456789", "Aufzug für zwölf Stöcke, 電梯", "\xc3", "\xe9\x9b", allBytes(),
	}
}

// samples are these and long ones.
func samples() []string {
	all := shortSamples()
	for _, n := range []int{2, 3, 7, 8, 9, 63, 255, 256, 257, 998, 1000, 65535, 65536, 70000} {
		all = append(all, mixed(n), strings.Repeat("\x00", n))
	}
	return all
}

// bitsOf returns the bits of s, the highest one of each byte first.
func bitsOf(s string) []bool {
	var bits []bool
	for i := 0; i < len(s); i++ {
		for k := 7; k >= 0; k-- {
			bits = append(bits, s[i]>>k&1 == 1)
		}
	}
	return bits
}

// remainder divides by long division, bit by bit as on paper: the second way to the same sums. The divisor has
// size + 1 bits, the highest of which is 1; the first bits of s are inverted where start has a 1.
func remainder(s string, size int, start, divisor uint32) uint32 {
	bits := append(bitsOf(s), make([]bool, size)...)
	for k := range size {
		bits[k] = bits[k] != (start>>(size-1-k)&1 == 1)
	}
	for i := 0; i+size < len(bits); i++ {
		if !bits[i] {
			continue
		}
		for k := 0; k <= size; k++ {
			bits[i+k] = bits[i+k] != (divisor>>(size-k)&1 == 1)
		}
	}
	rest := uint32(0)
	for _, bit := range bits[len(bits)-size:] {
		rest <<= 1
		if bit {
			rest |= 1
		}
	}
	return rest
}

// flip returns s with some bits turned round. Bit 0 is the highest bit of the first byte.
func flip(s string, bits ...int) string {
	b := []byte(s)
	for _, bit := range bits {
		b[bit/8] ^= 0x80 >> (bit % 8)
	}
	return string(b)
}

// short names a string in a message.
func short(s string) string {
	if len(s) > 20 {
		return fmt.Sprintf("%q.. of %d bytes", s[:20], len(s))
	}
	return fmt.Sprintf("%q", s)
}

func expectOpen(t *testing.T, s, want string, wantError api.Errno) {
	t.Helper()
	got, e := crc.Open(s)
	if got != want || e != wantError {
		t.Errorf("Open of %s: got %s and %d, want %s and %d", short(s), short(got), e, short(want), wantError)
	}
}

// P2.1: the chapter's example, and sums that are known from elsewhere or worked out by hand.
func TestSum16(t *testing.T) {
	for s, want := range map[string]uint16{
		"":                       0xFFFF,
		"123456789":              0x29B1,
		"A":                      0xB915,
		"\x00":                   0xE1F0,
		"\xff":                   0xFF00,
		"\xff\xff":               0x0000,
		"\xff\xff\x01":           0x1021,
		"\xff\xff\x02":           0x2042,
		"\xff\xff\x10":           0x1231,
		"\x00\xff\x80":           0x5EEB,
		strings.Repeat("A", 256): 0xEA0B,
	} {
		if got := crc.Sum16(s); got != want {
			t.Errorf("Sum16 of %s: got %#04x, want %#04x", short(s), got, want)
		}
	}
}

// P2.1: Sum16 is what long division leaves, for strings of every kind and for every byte.
func TestSum16IsARemainder(t *testing.T) {
	all := samples()
	for x := range 256 {
		all = append(all, string([]byte{byte(x)}), string([]byte{0xFF, 0xFF, byte(x)}))
	}
	for _, s := range all {
		if got, want := crc.Sum16(s), uint16(remainder(s, 16, 0xFFFF, 0x11021)); got != want {
			t.Errorf("Sum16 of %s: got %#04x, want %#04x", short(s), got, want)
		}
	}
}

// P2.2: the chapter's example, and sums that are known from elsewhere or worked out by hand.
func TestSum8(t *testing.T) {
	for s, want := range map[string]uint8{
		"":              0x00,
		"123456789":     0xF4,
		"\x00":          0x00,
		"\x00\x00":      0x00,
		"\x01":          0x07,
		"\x00\x01":      0x07,
		"\x01\x07":      0x00,
		"\x02":          0x0E,
		"\x10":          0x70,
		"\x20":          0xE0,
		"\x40":          0xC7,
		"\x80":          0x89,
		"\xff":          0xF3,
		"\x01\x00":      0x15,
		"\xff\xf3":      0x00,
		"123456789\xf4": 0x00,
	} {
		if got := crc.Sum8(s); got != want {
			t.Errorf("Sum8 of %s: got %#02x, want %#02x", short(s), got, want)
		}
	}
}

// P2.2: Sum8 is what long division leaves, for strings of every kind and for every byte.
func TestSum8IsARemainder(t *testing.T) {
	all := samples()
	for x := range 256 {
		all = append(all, string([]byte{byte(x)}), string([]byte{1, 7, byte(x)}))
	}
	for _, s := range all {
		if got, want := crc.Sum8(s), uint8(remainder(s, 8, 0, 0x107)); got != want {
			t.Errorf("Sum8 of %s: got %#02x, want %#02x", short(s), got, want)
		}
	}
}

// P2.3: Seal appends the higher byte of Sum16 and then the lower one, and nothing else.
func TestSeal(t *testing.T) {
	for s, want := range map[string]string{
		"":                       "\xff\xff",
		"123456789":              "123456789\x29\xb1",
		"A":                      "A\xb9\x15",
		"\x00":                   "\x00\xe1\xf0",
		"\xff":                   "\xff\xff\x00",
		"\xff\xff":               "\xff\xff\x00\x00",
		strings.Repeat("A", 256): strings.Repeat("A", 256) + "\xea\x0b",
	} {
		if got := crc.Seal(s); got != want {
			t.Errorf("Seal of %s: got %q, want %q", short(s), got, want)
		}
	}
	for _, s := range samples() {
		sum := crc.Sum16(s)
		if got, want := crc.Seal(s), s+string([]byte{byte(sum >> 8), byte(sum)}); got != want {
			t.Errorf("Seal of %s: got %s, want %s", short(s), short(got), short(want))
		}
	}
}

// P2.3: Open gives back what has been sealed, also when it has been sealed twice.
func TestOpen(t *testing.T) {
	expectOpen(t, "123456789\x29\xb1", "123456789", api.OK)
	expectOpen(t, "\xff\xff", "", api.OK)
	expectOpen(t, "\xff\xff\x00\x00", "\xff\xff", api.OK)
	expectOpen(t, "123456789\x29\xb1\x00", "123456789\x29", api.OK) // what follows 0 keeps it 0 if it is 0
	for _, s := range samples() {
		once := crc.Seal(s)
		expectOpen(t, once, s, api.OK)
		expectOpen(t, crc.Seal(once), once, api.OK)
	}
}

// P2.3: a string with fewer than two bytes has the wrong size, whatever the byte is.
func TestOpenTooShort(t *testing.T) {
	expectOpen(t, "", "", api.ErrSize)
	for x := range 256 {
		expectOpen(t, string([]byte{byte(x)}), "", api.ErrSize)
	}
}

// P2.3: two bytes are enough for the size, and then only the sum decides.
func TestOpenOtherSums(t *testing.T) {
	for _, s := range []string{
		"\x00\x00", "\xff\x00", "\x00\xff", "\xff\xfe",
		"\x00\x00\x00", "\xff\xff\xff", "\xff\xff\xff\xff",
		"123456789", "123456789\xb1\x29", "123456789\x29\xb1\x01", "\x00123456789\x29\xb1", "123456788\x29\xb1", "213456789\x29\xb1",
	} {
		expectOpen(t, s, "", api.ErrSum)
	}
}

// P2.3: behind a string, exactly one of all pairs of bytes is opened.
func TestOpenOneSumOfAll(t *testing.T) {
	for _, s := range []string{"", "A", "\xff\xff", "123456789"} {
		for sum := range 1 << 16 {
			sealed := s + string([]byte{byte(sum >> 8), byte(sum)})
			if sum == int(crc.Sum16(s)) {
				expectOpen(t, sealed, s, api.OK)
			} else {
				expectOpen(t, sealed, "", api.ErrSum)
			}
		}
	}
}

// The chapter's consequence: Sum16 of a sealed string is 0.
func TestSumOfASealedString(t *testing.T) {
	for _, s := range samples() {
		if got := crc.Sum16(crc.Seal(s)); got != 0 {
			t.Errorf("Sum16 of the sealed %s: got %#04x, want 0", short(s), got)
		}
	}
}

// The chapter's consequence: one or two other bits, anywhere in a sealed string, and it is not opened.
func TestOneOrTwoBits(t *testing.T) {
	for _, content := range []string{"", "A", "123456789", mixed(20)} {
		s := crc.Seal(content)
		for i := range 8 * len(s) {
			expectOpen(t, flip(s, i), "", api.ErrSum)
			for k := range i {
				expectOpen(t, flip(s, i, k), "", api.ErrSum)
			}
		}
	}
}

// The chapter's consequence for sealed strings of 1000 bytes, which have too many pairs of bits to try them all: every
// single bit makes Sum16 another number than every other bit does, so that two of them cannot make up for each other.
func TestBitsOfLongStrings(t *testing.T) {
	s := crc.Seal(mixed(998))
	from := map[uint16]int{}
	for i := range 8 * len(s) {
		sum := crc.Sum16(flip(s, i))
		if k, found := from[sum]; found || sum == 0 {
			t.Fatalf("Sum16 with another bit %d is %#04x, as with bit %d", i, sum, k)
		}
		from[sum] = i
		expectOpen(t, flip(s, i), "", api.ErrSum)
		if other := (i*37 + 11) % (8 * len(s)); other != i {
			expectOpen(t, flip(s, i, other), "", api.ErrSum)
		}
	}
}

// The chapter's consequence: other bits only within 16 neighbouring ones, and a sealed string is not opened, from whichever end the bits of a byte are counted.
func TestSixteenNeighbouringBits(t *testing.T) {
	s := crc.Seal("\x8e1234")
	for first := 0; first+16 <= 8*len(s); first++ {
		for pattern := 1; pattern < 1<<16; pattern++ {
			highest, lowest := []byte(s), []byte(s)
			for k := range 16 {
				if bit := first + k; pattern>>k&1 == 1 {
					highest[bit/8] ^= 0x80 >> (bit % 8)
					lowest[bit/8] ^= 1 << (bit % 8)
				}
			}
			for _, x := range []string{string(highest), string(lowest)} {
				if got, e := crc.Open(x); got != "" || e != api.ErrSum {
					t.Fatalf("Open of %q with other bits from bit %d (%016b): got %q and %d", s, first, pattern, got, e)
				}
			}
		}
	}
}

// The chapter's consequence: Sum8 tells apart strings that differ in one bit.
func TestSum8OfOneBit(t *testing.T) {
	for _, s := range append(shortSamples(), mixed(300), mixed(1000)) {
		for i := range 8 * len(s) {
			if crc.Sum8(s) == crc.Sum8(flip(s, i)) {
				t.Errorf("Sum8 of %s is the same with another bit %d", short(s), i)
			}
		}
	}
}

// R5: the same arguments give the same results, whatever has been called in between.
func TestSameResults(t *testing.T) {
	results := func() string {
		content, e := crc.Open("123456789\x29\xb1")
		nothing, wrong := crc.Open("123456789\x29\xb2")
		return fmt.Sprintf("%d %d %q %q %d %q %d", crc.Sum16("ab"), crc.Sum8("ab"), crc.Seal("ab"), content, e, nothing, wrong)
	}
	first := results()
	for _, s := range samples() {
		crc.Open(crc.Seal(s))
	}
	if second := results(); first != second {
		t.Errorf("the results changed from %s to %s", first, second)
	}
}
