package park_test

import (
	"math"
	"math/rand"
	"testing"

	"overlay/api"
	"overlay/park"
)

// bySentence is P14.1 for a valid building: it looks for the car and the floor among those that there are.
func bySentence(b api.Building, car, idle, floor int) int {
	for number, c := range b.Cars {
		for place := range b.Floors {
			if number != car || place != floor || idle < b.Park {
				continue
			}
			if c.Home > place {
				return up
			}
			if c.Home < place {
				return down
			}
		}
	}
	return none
}

// byCounting is P14.2 for a car: the highest floor that is not above the quotient.
func byCounting(floors, cars, car int) int {
	floor := 0
	for (floor+1)*2*cars <= (2*car+1)*floors {
		floor++
	}
	return floor
}

func expectModel(t *testing.T, b api.Building, car, idle, floor int) {
	t.Helper()
	if got, want := park.Move(b, car, idle, floor), bySentence(b, car, idle, floor); got != want {
		t.Fatalf("%d floors, Park %d, Move(%d, %d, %d): got %d, want %d", b.Floors, b.Park, car, idle, floor, got, want)
	}
}

// P14.1: all Homes, floors and ticks around Park.
func TestAllMoves(t *testing.T) {
	for floors := 2; floors <= 32; floors++ {
		for home := range floors {
			for _, ticks := range []int{1, 5, 10000} {
				b := plan(floors, ticks, floors-1-home, home)
				for floor := -1; floor <= floors; floor++ {
					for car := -1; car <= 2; car++ {
						for _, idle := range []int{0, ticks - 1, ticks, ticks + 1, 20000} {
							expectModel(t, b, car, idle, floor)
						}
					}
				}
			}
		}
	}
}

// someNumber is a number that is often from low to high, and at times one that looks like it.
func someNumber(r *rand.Rand, low, high int) int {
	number := low + r.Intn(high-low+1)
	switch r.Intn(12) {
	case 0:
		return number - high
	case 1:
		return number + high
	case 2:
		return number + 256
	case 3:
		return number + 1<<32
	case 4:
		return math.MaxInt - number
	case 5:
		return math.MinInt + number
	}
	return number
}

// P14.1: samples of buildings with any number of cars.
func TestSomeMoves(t *testing.T) {
	r := rand.New(rand.NewSource(14))
	for range 20000 {
		floors := 2 + r.Intn(31)
		homes := make([]int, 1+r.Intn(8))
		for car := range homes {
			homes[car] = r.Intn(floors)
		}
		b := plan(floors, 1+r.Intn(10000), homes...)
		for range 10 {
			expectModel(t, b, someNumber(r, 0, len(homes)-1), someNumber(r, b.Park-1, b.Park+1), someNumber(r, 0, floors-1))
		}
	}
}

// P14.2: all numbers of floors and cars.
func TestAllSpreads(t *testing.T) {
	for floors := 2; floors <= 32; floors++ {
		for cars := 1; cars <= 8; cars++ {
			got := park.Spread(plan(floors, 5, make([]int, cars)...))
			if len(got) != cars {
				t.Fatalf("%d floors, %d cars: got %d", floors, cars, got)
			}
			for car, home := range got {
				if want := byCounting(floors, cars, car); home != want {
					t.Errorf("%d floors, %d cars, car %d: got %d, want %d", floors, cars, car, home, want)
				}
			}
		}
	}
}
