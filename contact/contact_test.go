package contact_test

import (
	"fmt"
	"math"
	"math/rand"
	"testing"

	"overlay/api"
	"overlay/contact"
)

const total = 36

// contactsOf makes contacts of a list of those that are closed, in the order of their numbers.
func contactsOf(closed [total]bool) api.Contacts {
	c := api.Contacts{Up: closed[32], Down: closed[33], Open: closed[34], Closed: closed[35]}
	for f := range 32 {
		if closed[f] {
			c.Floors += 1 << f
		}
	}
	return c
}

// closedOf is the list of the contacts that are closed.
func closedOf(c api.Contacts) [total]bool {
	l := [total]bool{32: c.Up, 33: c.Down, 34: c.Open, 35: c.Closed}
	for f := range 32 {
		l[f] = c.Floors/(1<<f)%2 == 1
	}
	return l
}

// only has one contact closed, and others has every one closed but it.
func only(i int) api.Contacts {
	var closed [total]bool
	closed[i] = true
	return contactsOf(closed)
}

func others(i int) api.Contacts { return inverse(only(i)) }

func everything() api.Contacts {
	return api.Contacts{Floors: math.MaxUint32, Up: true, Down: true, Open: true, Closed: true}
}

// inverse has the contacts closed that c has not.
func inverse(c api.Contacts) api.Contacts {
	return api.Contacts{Floors: ^c.Floors, Up: !c.Up, Down: !c.Down, Open: !c.Open, Closed: !c.Closed}
}

func someContacts(r *rand.Rand) api.Contacts {
	var closed [total]bool
	for i := range closed {
		closed[i] = r.Intn(2) == 0
	}
	return contactsOf(closed)
}

// samples are contacts of all kinds.
func samples() []api.Contacts {
	l := []api.Contacts{{}, everything(), {Floors: 6}, {Floors: 0xAAAAAAAA, Up: true, Open: true}, {Floors: 0x55555555, Down: true, Closed: true}}
	for i := range total {
		l = append(l, only(i), others(i))
	}
	r := rand.New(rand.NewSource(1))
	for range 20 {
		l = append(l, someContacts(r))
	}
	return l
}

// noContacts are numbers of no contact, among them those that have the lowest bits of one.
func noContacts() []int {
	return []int{
		-1, -2, -31, -32, -33, -36, -64, -256, 36, 37, 63, 64, 65, 67, 96, 100, 128, 255, 256, 256 + 34, 1<<16 + 32,
		math.MinInt, math.MinInt + 1, math.MinInt + 33, math.MaxInt, math.MaxInt - 28, math.MaxInt32, math.MinInt32,
	}
}

// someState returns a state for n.
func someState(r *rand.Rand, n int) api.Debounced {
	s := api.Debounced{Contacts: someContacts(r)}
	for i := range s.Count {
		s.Count[i] = r.Intn(n)
	}
	return s
}

// noStates are no states for n, each because of one Count.
func noStates(n int) []api.Debounced {
	var l []api.Debounced
	for i := range total {
		for _, count := range []int{n, n + 1, -1, math.MaxInt, math.MinInt} {
			s := api.Debounced{Contacts: only(i)}
			s.Count[i] = count
			l = append(l, s)
		}
	}
	return l
}

// noDebounces are numbers of readings that are not allowed.
func noDebounces() []int { return []int{0, -1, -2, 17, 18, 36, 256, math.MinInt, math.MaxInt} }

// P4.1: every contact by its number: the floors are the bits from the lowest one on, and then come the four others.
func TestNumbers(t *testing.T) {
	for i, want := range map[int]api.Contacts{
		0: {Floors: 1}, 1: {Floors: 2}, 7: {Floors: 0x80}, 8: {Floors: 0x100}, 30: {Floors: 0x40000000}, 31: {Floors: 0x80000000},
		32: {Up: true}, 33: {Down: true}, 34: {Open: true}, 35: {Closed: true},
	} {
		if got := contact.Set(api.Contacts{}, i, true); got != want {
			t.Errorf("Set of contact %d: got %+v, want %+v", i, got, want)
		}
		if !contact.Get(want, i) || contact.Get(inverse(want), i) {
			t.Errorf("Get of contact %d: got %v with it, %v without", i, contact.Get(want, i), contact.Get(inverse(want), i))
		}
	}
}

// P4.1: Get returns whether a contact is closed, whatever the others are.
func TestGet(t *testing.T) {
	for _, c := range samples() {
		for i, want := range closedOf(c) {
			if got := contact.Get(c, i); got != want {
				t.Errorf("Get of contact %d of %+v: got %v, want %v", i, c, got, want)
			}
		}
	}
}

// P4.1: Set changes one contact, or none if it is so already.
func TestSet(t *testing.T) {
	for _, c := range samples() {
		for i := range total {
			for _, on := range []bool{false, true} {
				closed := closedOf(c)
				closed[i] = on
				if got, want := contact.Set(c, i, on), contactsOf(closed); got != want {
					t.Errorf("Set of contact %d of %+v to %v: got %+v, want %+v", i, c, on, got, want)
				}
			}
		}
	}
}

// P4.1 and R1: with the number of no contact, Get returns false and Set what it was given.
func TestNumbersOfNoContact(t *testing.T) {
	for _, c := range samples() {
		for _, i := range noContacts() {
			if contact.Get(c, i) {
				t.Errorf("Get of %d of %+v: got true, want false", i, c)
			}
			for _, on := range []bool{false, true} {
				if got := contact.Set(c, i, on); got != c {
					t.Errorf("Set of %d of %+v to %v: got %+v, want the same", i, c, on, got)
				}
			}
		}
	}
}

// P4.1: the zero state is one for every n, with any contacts; and nothing is one for another n.
func TestIsStateOfZeros(t *testing.T) {
	for _, c := range samples() {
		for n := 1; n <= api.MaxDebounce; n++ {
			if !contact.IsState(n, api.Debounced{Contacts: c}) {
				t.Errorf("IsState: %+v without Counts is none for %d", c, n)
			}
		}
		for _, n := range noDebounces() {
			if contact.IsState(n, api.Debounced{Contacts: c}) {
				t.Errorf("IsState: %+v without Counts is one for %d", c, n)
			}
		}
	}
}

// P4.1: every Count is from 0 to n - 1.
func TestIsStateOfEachCount(t *testing.T) {
	for i := range total {
		for n := -1; n <= 18; n++ {
			for count := -2; count <= 19; count++ {
				var s api.Debounced
				s.Count[i] = count
				want := 1 <= n && n <= 16 && 0 <= count && count < n
				if got := contact.IsState(n, s); got != want {
					t.Errorf("IsState(%d) with Count %d of contact %d: got %v, want %v", n, count, i, got, want)
				}
			}
		}
	}
}

// P4.1: many Counts are allowed at once, and one that is not spoils them.
func TestIsStateOfAllCounts(t *testing.T) {
	r := rand.New(rand.NewSource(2))
	for n := 1; n <= api.MaxDebounce; n++ {
		highest := api.Debounced{Contacts: everything()}
		for i := range highest.Count {
			highest.Count[i] = n - 1
		}
		for _, s := range []api.Debounced{highest, someState(r, n), someState(r, n)} {
			if !contact.IsState(n, s) {
				t.Errorf("IsState(%d): got false for %+v", n, s)
			}
			for i, count := range s.Count {
				for _, wrong := range []int{n, -1, -n, 256, n + 255, 1 << 16, math.MaxInt/2 + 1, math.MaxInt, math.MinInt} {
					s.Count[i] = wrong
					if contact.IsState(n, s) {
						t.Errorf("IsState(%d): got true with Count %d of contact %d", n, wrong, i)
					}
				}
				s.Count[i] = count
			}
		}
	}
}

// P4.2: the chapter's example, and the way back.
func TestStepOfOneContact(t *testing.T) {
	s := api.Debounced{}
	for k, x := range []struct {
		read, counts bool
		count        int
	}{
		{true, false, 1}, {false, false, 0}, {true, false, 1}, {true, true, 0}, {true, true, 0},
		{false, true, 1}, {true, true, 0}, {false, true, 1}, {false, false, 0}, {false, false, 0},
	} {
		want := api.Debounced{Contacts: api.Contacts{Open: x.counts}}
		want.Count[34] = x.count
		got, e := contact.Step(2, s, api.Contacts{Open: x.read})
		if got != want || e != api.OK {
			t.Errorf("Step, reading %d: got %+v and %d, want %+v", k+1, got, e, want)
		}
		s = got
	}
}

// P4.2: for every contact, every n, every Count and both ways to count and to be read; the others stay as they are.
func TestStepOfEachContact(t *testing.T) {
	for i := range total {
		for n := 1; n <= api.MaxDebounce; n++ {
			for count := range n {
				for _, base := range []api.Contacts{only(i), others(i)} {
					s := api.Debounced{Contacts: base}
					s.Count[i] = count
					expectStep(t, n, s, base, api.Debounced{Contacts: base})
					turned := contact.Set(base, i, base == others(i))
					want := s
					want.Count[i]++
					if count == n-1 {
						want = api.Debounced{Contacts: turned}
					}
					expectStep(t, n, s, turned, want)
				}
			}
		}
	}
}

func expectStep(t *testing.T, n int, s api.Debounced, read api.Contacts, want api.Debounced) {
	t.Helper()
	if got, e := contact.Step(n, s, read); got != want || e != api.OK {
		t.Errorf("Step(%d) of %+v, read %+v: got %+v and %d, want %+v", n, s, read, got, e, want)
	}
}

// P4.2: without a state for n there is no step, whatever is read.
func TestStepWithoutAState(t *testing.T) {
	refused := func(n int, s api.Debounced) {
		for _, read := range []api.Contacts{{}, everything(), s.Contacts} {
			if got, e := contact.Step(n, s, read); got != (api.Debounced{}) || e != api.ErrArg {
				t.Errorf("Step(%d) of %+v: got %+v and %d, want nothing and ErrArg", n, s, got, e)
			}
		}
	}
	for n := 1; n <= api.MaxDebounce; n++ {
		for _, s := range noStates(n) {
			refused(n, s)
		}
	}
	for _, n := range noDebounces() {
		refused(n, api.Debounced{})
		refused(n, api.Debounced{Contacts: everything(), Count: [total]int{34: 1}})
	}
}

// P4.2: behind a state for n is a state for n.
func TestStatesBehindStates(t *testing.T) {
	r := rand.New(rand.NewSource(3))
	for n := 1; n <= api.MaxDebounce; n++ {
		for range 200 {
			if s, e := contact.Step(n, someState(r, n), someContacts(r)); !contact.IsState(n, s) || e != api.OK {
				t.Errorf("Step(%d): got %d and no state, %+v", n, e, s)
			}
		}
	}
}

// R5: the same arguments give the same results, whatever has been called in between.
func TestSameResults(t *testing.T) {
	results := func() string {
		s := api.Debounced{Contacts: only(3), Count: [total]int{3: 1, 35: 2}}
		next, e := contact.Step(3, s, only(35))
		last, l, f := contact.Run(3, s, []api.Contacts{only(35), only(3), {}})
		none, g := contact.Step(2, s, only(35))
		return fmt.Sprint(next, e, last, l, f, none, g, contact.IsState(3, s), contact.Get(next.Contacts, 35), contact.Set(next.Contacts, 0, true))
	}
	first := results()
	r := rand.New(rand.NewSource(4))
	for n := 1; n <= api.MaxDebounce; n++ {
		contact.Run(n, someState(r, n), samples())
	}
	if second := results(); first != second {
		t.Errorf("the results changed from %s to %s", first, second)
	}
}
