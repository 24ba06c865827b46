package contact_test

import (
	"math/rand"
	"reflect"
	"slices"
	"testing"

	"overlay/api"
	"overlay/contact"
)

// settled tells how a contact counts behind its readings, and its Count: the second way to both, which looks at all of
// its readings at once. What has been read n times in a row last counts, and the readings behind that are the Count.
// Before the readings were n as it counted at first, and then as many others as its Count was.
func settled(n int, counts bool, count int, readings []bool) (bool, int) {
	l := slices.Concat(slices.Repeat([]bool{counts}, n), slices.Repeat([]bool{!counts}, count), readings)
	end := len(l)
	for slices.Contains(l[end-n:end], !l[end-1]) {
		end--
	}
	behind := len(l)
	for behind > end && l[behind-1] != l[end-1] {
		behind--
	}
	return l[end-1], len(l) - behind
}

// settledAll tells the same of all contacts.
func settledAll(n int, s api.Debounced, l []api.Contacts) api.Debounced {
	readings := make([][]bool, total)
	for _, c := range l {
		for i, on := range closedOf(c) {
			readings[i] = append(readings[i], on)
		}
	}
	counts, count := closedOf(s.Contacts), s.Count
	for i := range total {
		counts[i], count[i] = settled(n, counts[i], count[i], readings[i])
	}
	return api.Debounced{Contacts: contactsOf(counts), Count: count}
}

// expectRun compares Run with Step for each reading, and with the second way.
func expectRun(t *testing.T, n int, s api.Debounced, l []api.Contacts) {
	t.Helper()
	got, counting, e := contact.Run(n, s, l)
	if want := settledAll(n, s, l); got != want || e != api.OK {
		t.Fatalf("Run(%d) of %+v, read %+v: got %+v and %d, want %+v", n, s, l, got, e, want)
	}
	var want []api.Contacts
	for k := range l {
		s, _ = contact.Step(n, s, l[k])
		want = append(want, s.Contacts)
	}
	if got != s || !slices.Equal(counting, want) {
		t.Fatalf("Run(%d), read %+v: got %+v, %+v, want %+v, %+v", n, l, got, counting, s, want)
	}
}

// contactCase is what one contact does in a run.
type contactCase struct {
	counts   bool
	count    int
	readings int // as bits, the first one lowest
}

// allCases are all of them for n with some readings.
func allCases(n, readings int) []contactCase {
	var l []contactCase
	for count := range n {
		for pattern := range 1 << readings {
			l = append(l, contactCase{false, count, pattern}, contactCase{true, count, pattern})
		}
	}
	return l
}

// P4.2, P4.3: each contact goes through all cases, while the other contacts go through other ones.
func TestRunOfAllShortReadings(t *testing.T) {
	const readings = 8
	for n := 1; n <= 4; n++ {
		cases := allCases(n, readings)
		for first := range cases {
			var counts [total]bool
			var s api.Debounced
			var l [readings][total]bool
			for i := range total {
				c := cases[(first+i*7)%len(cases)]
				counts[i], s.Count[i] = c.counts, c.count
				for k := range l {
					l[k][i] = c.readings>>k&1 == 1
				}
			}
			s.Contacts = contactsOf(counts)
			var read []api.Contacts
			for _, closed := range l {
				read = append(read, contactsOf(closed))
			}
			expectRun(t, n, s, read)
		}
	}
}

// someReadings are readings in which contacts stay as they are for about n readings, so that some of them count and
// others do not.
func someReadings(r *rand.Rand, n, size int) []api.Contacts {
	var l []api.Contacts
	closed := closedOf(someContacts(r))
	for range size {
		for i := range closed {
			if r.Intn(n+1) == 0 {
				closed[i] = !closed[i]
			}
		}
		l = append(l, contactsOf(closed))
	}
	return l
}

// P4.2, P4.3: longer readings from any state, for every n.
func TestRunOfSomeReadings(t *testing.T) {
	r := rand.New(rand.NewSource(5))
	for n := 1; n <= api.MaxDebounce; n++ {
		for size := range 40 {
			expectRun(t, n, someState(r, n), someReadings(r, n, size))
		}
		expectRun(t, n, api.Debounced{}, someReadings(r, n, 200))
	}
}

// P4.3: what counts behind each reading, in the order of the readings.
func TestRunInOrder(t *testing.T) {
	up, door := api.Contacts{Up: true}, api.Contacts{Open: true}
	both := api.Contacts{Up: true, Open: true}
	got, l, e := contact.Run(2, api.Debounced{}, []api.Contacts{both, up, both, both, {}, door, {}, {}})
	if want := (api.Debounced{}); got != want || e != api.OK {
		t.Errorf("Run: got %+v and %d, want %+v", got, e, want)
	}
	if want := []api.Contacts{{}, up, up, both, both, door, door, {}}; !slices.Equal(l, want) {
		t.Errorf("Run: got %+v, want %+v", l, want)
	}
}

// P4.3 and R4: without readings nothing changes, whether they are nil or empty.
func TestRunWithoutReadings(t *testing.T) {
	r := rand.New(rand.NewSource(6))
	for n := 1; n <= api.MaxDebounce; n++ {
		s := someState(r, n)
		for _, none := range [][]api.Contacts{nil, {}, make([]api.Contacts, 0, 5)} {
			if got, l, e := contact.Run(n, s, none); got != s || len(l) != 0 || e != api.OK {
				t.Errorf("Run(%d) without readings: got %+v, %+v and %d, want %+v", n, got, l, e, s)
			}
		}
	}
}

// P4.3: MaxTicks readings are allowed, and one more is not.
func TestRunOfManyReadings(t *testing.T) {
	r := rand.New(rand.NewSource(7))
	for _, n := range []int{1, 2, 16} {
		s, read := someState(r, n), make([]api.Contacts, 5000)
		for i := range 5000 - n {
			read[i] = everything()
		}
		got, l, e := contact.Run(n, s, read)
		if got != (api.Debounced{}) || len(l) != 5000 || l[4999] != (api.Contacts{}) || l[4998] != everything() || e != api.OK {
			t.Errorf("Run(%d) of 5000 readings: got %+v, %d contacts, and %d", n, got, len(l), e)
		}
		for _, size := range []int{5001, 5002, 10000} {
			expectRunRefused(t, n, s, make([]api.Contacts, size), api.ErrLimit)
		}
	}
}

func expectRunRefused(t *testing.T, n int, s api.Debounced, l []api.Contacts, want api.Errno) {
	t.Helper()
	if got, counting, e := contact.Run(n, s, l); got != (api.Debounced{}) || len(counting) != 0 || e != want {
		t.Errorf("Run(%d) of %+v, %d readings: got %+v, %+v and %d, want nothing and %d", n, s, len(l), got, counting, e, want)
	}
}

// P4.3: what is no state for n comes first, also with too many readings or with none.
func TestRunWithoutAState(t *testing.T) {
	few, many := []api.Contacts{everything(), {}}, make([]api.Contacts, 5001)
	for n := 1; n <= api.MaxDebounce; n++ {
		for _, s := range noStates(n) {
			for _, l := range [][]api.Contacts{nil, few, many} {
				expectRunRefused(t, n, s, l, api.ErrArg)
			}
		}
	}
	for _, n := range noDebounces() {
		for _, l := range [][]api.Contacts{nil, few, many} {
			expectRunRefused(t, n, api.Debounced{}, l, api.ErrArg)
		}
	}
}

// The chapter's consequence: contacts do not influence each other. Whatever the others do, a contact does the same.
func TestContactsAlone(t *testing.T) {
	r := rand.New(rand.NewSource(8))
	for n := 1; n <= api.MaxDebounce; n++ {
		for i := range total {
			s, other := someState(r, n), someState(r, n)
			l, m := someReadings(r, n, 30), someReadings(r, n, 30)
			other.Contacts = contact.Set(other.Contacts, i, contact.Get(s.Contacts, i))
			other.Count[i] = s.Count[i]
			for k := range m {
				m[k] = contact.Set(m[k], i, contact.Get(l[k], i))
			}
			s, counting, _ := contact.Run(n, s, l)
			other, counting2, _ := contact.Run(n, other, m)
			for k := range counting {
				if contact.Get(counting[k], i) != contact.Get(counting2[k], i) {
					t.Errorf("Run(%d): behind reading %d contact %d counts in another way beside other contacts", n, k, i)
				}
			}
			if s.Count[i] != other.Count[i] {
				t.Errorf("Run(%d): Count of contact %d is %d and %d", n, i, s.Count[i], other.Count[i])
			}
		}
	}
}

// The chapter's consequence: what has been read n times in a row counts, whatever was ahead of it.
func TestReadNTimes(t *testing.T) {
	r := rand.New(rand.NewSource(9))
	for n := 1; n <= api.MaxDebounce; n++ {
		for _, c := range samples() {
			l := append(someReadings(r, n, r.Intn(20)), slices.Repeat([]api.Contacts{c}, n)...)
			if got, _, e := contact.Run(n, someState(r, n), l); got != (api.Debounced{Contacts: c}) || e != api.OK {
				t.Errorf("Run(%d): got %+v and %d behind %d readings of %+v", n, got, e, n, c)
			}
		}
	}
}

// The chapter's consequence: a disturbance of fewer than n readings leaves no trace, as soon as it is over; one of n
// readings does.
func TestDisturbances(t *testing.T) {
	r := rand.New(rand.NewSource(10))
	for n := 1; n <= api.MaxDebounce; n++ {
		for size := range n {
			c := someContacts(r)
			s := api.Debounced{Contacts: c}
			for _, l := range [][]api.Contacts{someReadings(r, n, size), slices.Repeat([]api.Contacts{inverse(c)}, size)} {
				got, counting, e := contact.Run(n, s, append(l, c))
				if got != s || e != api.OK || !slices.Equal(counting, slices.Repeat([]api.Contacts{c}, size+1)) {
					t.Errorf("Run(%d): a disturbance of %d readings leaves %+v, %+v and %d of %+v", n, size, got, counting, e, c)
				}
			}
		}
		s := api.Debounced{Contacts: everything()}
		if _, l, _ := contact.Run(n, s, make([]api.Contacts, n)); l[n-1] != (api.Contacts{}) {
			t.Errorf("Run(%d): %d readings in a row do not count", n, n)
		}
	}
}

// R3: readings are neither changed nor kept, nor is the room behind them, and results share nothing.
func TestMemory(t *testing.T) {
	room := samples()
	before := slices.Clone(room)
	s := api.Debounced{Contacts: only(5), Count: [total]int{7: 1}}
	l := room[:10]
	_, first, _ := contact.Run(2, s, l)
	_, second, _ := contact.Run(2, s, l)
	if !reflect.DeepEqual(room, before) {
		t.Errorf("Run changed the readings: %+v, they were %+v", room, before)
	}
	kept := slices.Clone(second)
	for i := range first[:cap(first)] {
		first[:cap(first)][i] = everything()
	}
	if !reflect.DeepEqual(room, before) || !slices.Equal(second, kept) {
		t.Errorf("a result shares memory: readings %+v, other result %+v", room, second)
	}
	for i := range room {
		room[i] = inverse(room[i])
	}
	if !slices.Equal(second, kept) {
		t.Errorf("a result changed with the readings: %+v, it was %+v", second, kept)
	}
}
