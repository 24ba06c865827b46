package park_test

import (
	"slices"
	"testing"

	"overlay/api"
	"overlay/building"
	"overlay/park"
)

// The chapter's example.
func TestExample(t *testing.T) {
	if got := park.Spread(plan(9, 20, 0, 0)); !slices.Equal(got, []int{2, 6}) {
		t.Errorf("got %d", got)
	}
}

// stepsHome lets a car follow Move, and returns the number of steps that it does and the floor to which it comes.
func stepsHome(b api.Building, car, floor int) (int, int) {
	for steps := range b.Floors {
		switch park.Move(b, car, b.Park+steps, floor) {
		case up:
			floor++
		case down:
			floor--
		default:
			return steps, floor
		}
	}
	return b.Floors, floor
}

// The consequence of P14.1: a car comes to its Home, with as many steps as it is away.
func TestComesHome(t *testing.T) {
	for _, floors := range []int{2, 3, 8, 32} {
		for home := range floors {
			b := plan(floors, 3, floors-1-home, home)
			for floor := range floors {
				steps, end := stepsHome(b, 1, floor)
				if end != home || steps != max(home-floor, floor-home) {
					t.Errorf("%d floors, from %d to %d: %d steps to %d", floors, floor, home, steps, end)
				}
			}
		}
	}
}

// A car waits for Park ticks before its first step.
func TestWaitsFirst(t *testing.T) {
	b := plan(9, 50, 0, 6)
	for idle := 0; ; idle++ {
		if command := park.Move(b, 1, idle, 4); command != none {
			if idle != 50 || command != up {
				t.Errorf("idle for %d ticks: %d", idle, command)
			}
			return
		}
		if idle > 50 {
			t.Fatalf("it waits for ever")
		}
	}
}

// The consequence of P14.2: the proposals ascend, differ if there are enough floors, and are Homes.
func TestProposals(t *testing.T) {
	for floors := 2; floors <= 32; floors++ {
		for cars := 1; cars <= 8; cars++ {
			homes := park.Spread(plan(floors, 5, make([]int, cars)...))
			if !slices.IsSorted(homes) {
				t.Errorf("%d floors: %d do not ascend", floors, homes)
			}
			if different := len(slices.Compact(slices.Clone(homes))); floors >= cars && different != cars {
				t.Errorf("%d floors: %d are %d different ones", floors, homes, different)
			}
			if e := building.Valid(plan(floors, 5, homes...)); e != api.OK {
				t.Errorf("%d floors: with the Homes %d, Valid is %d", floors, homes, e)
			}
		}
	}
}
