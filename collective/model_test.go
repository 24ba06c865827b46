package collective_test

import (
	"math/rand"
	"slices"
	"testing"

	"overlay/api"
)

// stop is a stop of the model, the second way to a choice, which has lists where the program has bits. With the
// direction none it is a car call.
type stop struct{ floor, dir int }

// model is a car at a floor.
type model struct {
	floor  int
	opened map[int]bool // for which directions the door has been opened; empty where Opened counts as 0
	stops  []stop       // those that are not spent
	spent  []stop
}

func modelOf(floors int, w api.Sweep, floor int, s api.Stops) model {
	opened := map[int]bool{}
	for dir := none; dir <= down; dir++ {
		if []int{w.Opened, w.Opened / 2, w.Opened / 4}[dir]%2 == 1 {
			opened[dir] = true
		}
	}
	m := model{floor: floor, opened: opened}
	for _, x := range listOf(floors, s) {
		if x.floor == floor && (x.dir == none && len(opened) > 0 || x.dir != none && opened[x.dir]) {
			m.spent = append(m.spent, x)
		} else {
			m.stops = append(m.stops, x)
		}
	}
	if len(m.stops) == 0 {
		return model{floor: floor, opened: map[int]bool{}, stops: m.spent}
	}
	return m
}

// listOf lists the stops that count.
func listOf(floors int, s api.Stops) []stop {
	var l []stop
	has := func(word uint32, f int) bool { return word/(1<<f)%2 == 1 }
	for f := range floors {
		if has(s.Car, f) {
			l = append(l, stop{f, none})
		}
		if has(s.Hall.Up, f) && f != floors-1 {
			l = append(l, stop{f, up})
		}
		if has(s.Hall.Down, f) && f != 0 {
			l = append(l, stop{f, down})
		}
	}
	return l
}

// wordsOf makes stops of a list.
func wordsOf(l []stop) api.Stops {
	var s api.Stops
	for _, x := range l {
		*[]*uint32{&s.Car, &s.Hall.Up, &s.Hall.Down}[x.dir] += 1 << x.floor
	}
	return s
}

// at asks whether there is a call at the floor, or a car call with none.
func (m model) at(dir int) bool {
	return slices.Contains(m.stops, stop{m.floor, dir})
}

// far is how far it is to the nearest stop above or below; 0 if there is none.
func (m model) far(dir int) int {
	nearest := 0
	for _, x := range m.stops {
		distance := x.floor - m.floor
		if dir == down {
			distance = -distance
		}
		if distance > 0 && (nearest == 0 || distance < nearest) {
			nearest = distance
		}
	}
	return nearest
}

// choose has a branch for each sentence of P11.2.
func (m model) choose(dir int) api.Choice {
	above, below := m.far(up), m.far(down)
	if dir == up {
		if m.at(none) || m.at(up) {
			if m.at(up) || above > 0 {
				return open(up)
			} else if m.at(down) || below > 0 {
				return open(down)
			}
			return open(none)
		}
		if above > 0 {
			return goUp
		}
		dir = down
	}
	if dir == down {
		if m.at(none) || m.at(down) {
			if m.at(down) || below > 0 {
				return open(down)
			} else if m.at(up) || above > 0 {
				return open(up)
			}
			return open(none)
		}
		if below > 0 {
			return goDown
		}
		if m.at(up) {
			return open(up)
		}
		if above > 0 {
			return goUp
		}
		return nothing
	}
	return m.chooseNearer(above, below)
}

// chooseNearer is rule 7.
func (m model) chooseNearer(above, below int) api.Choice {
	nearer, moves := none, nothing
	if above > 0 && (below == 0 || below >= above) {
		nearer, moves = up, goUp
	} else if below > 0 {
		nearer, moves = down, goDown
	}
	if m.at(up) {
		return open(up)
	} else if m.at(down) {
		return open(down)
	} else if m.at(none) {
		return open(nearer)
	}
	return moves
}

// next is P11.3.
func (m model) next(c api.Choice) api.Sweep {
	w := sweep(c.Dir, 0)
	if c.Do != api.CmdOpen {
		return w
	}
	for dir, bit := range []int{openedNone, openedUp, openedDown} {
		if m.opened[dir] || dir == c.Shown {
			w.Opened += bit
		}
	}
	return w
}

func expectModel(t *testing.T, floors int, w api.Sweep, floor int, s api.Stops) {
	t.Helper()
	m := modelOf(floors, w, floor, s)
	c := m.choose(w.Dir)
	expect(t, floors, w, floor, s, wordsOf(m.spent), c, m.next(c))
}

// each calls look with all stops of the floors, also with those that do not count.
func each(floors int, look func(s api.Stops)) {
	words := uint32(1) << floors
	for car := range words {
		for u := range words {
			for d := range words {
				look(stops(car, u, d))
			}
		}
	}
}

// everywhere calls look with everything that can happen in a building with up to four floors.
func everywhere(look func(floors int, w api.Sweep, floor int, s api.Stops)) {
	for floors := 2; floors <= 4; floors++ {
		each(floors, func(s api.Stops) {
			for floor := range floors {
				for _, w := range sweeps() {
					look(floors, w, floor, s)
				}
			}
		})
	}
}

// P11.1 to P11.3: everything that can happen in a small building.
func TestSmallBuildings(t *testing.T) {
	everywhere(func(floors int, w api.Sweep, floor int, s api.Stops) { expectModel(t, floors, w, floor, s) })
}

// P11.1 to P11.3: stops of all kinds in all buildings.
func TestLargeBuildings(t *testing.T) {
	r := rand.New(rand.NewSource(4))
	for floors := 2; floors <= 32; floors++ {
		for floor := range floors {
			for range 25 {
				s := some(r)
				for _, w := range sweeps() {
					expectModel(t, floors, w, floor, s)
				}
			}
		}
	}
}
