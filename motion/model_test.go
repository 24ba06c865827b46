package motion_test

import (
	"math/rand"
	"testing"

	"overlay/api"
	"overlay/motion"
)

// nextFloors are the floors to which a command leads: one, or none.
func nextFloors(floors, floor, command int) []int {
	if command == up && floor+1 < floors {
		return []int{floor + 1}
	}
	if command == down && floor > 0 {
		return []int{floor - 1}
	}
	return nil
}

// bySentences is P13.2 for a state and a floor.
func bySentences(floors int, s api.Motion, fb api.Feedback, want int) (api.Motion, int, bool) {
	more := s.Time
	if more < most {
		more++
	}
	if s.Command != none {
		if fb.Level && fb.Floor == nextFloors(floors, s.Floor, s.Command)[0] {
			return api.Motion{}, none, true
		}
		return api.Motion{Command: s.Command, Time: more, Floor: s.Floor}, s.Command, false
	}
	if !fb.Level {
		return api.Motion{Time: more}, none, false
	}
	if len(nextFloors(floors, fb.Floor, want)) == 1 {
		return api.Motion{Command: want, Floor: fb.Floor}, want, false
	}
	return api.Motion{}, none, false
}

// reports are all that a car can report at these floors.
func reports(floors ...int) []api.Feedback {
	var l []api.Feedback
	for _, floor := range floors {
		for door := api.DoorMoving; door <= api.DoorBad; door++ {
			for bits := range 4 {
				l = append(l, api.Feedback{Floor: floor, Level: bits&1 == 1, Door: door, Block: bits&2 == 2})
			}
		}
	}
	return l
}

func expectModel(t *testing.T, floors int, s api.Motion, fb api.Feedback, want int) {
	t.Helper()
	next, command, arrived := motion.Step(floors, s, fb, want)
	wantNext, wantCommand, wantArrived := bySentences(floors, s, fb, want)
	if next != wantNext || command != wantCommand || arrived != wantArrived {
		t.Fatalf("%d floors, Step of %+v, %+v, want %d: got %+v, %d and %t, want %+v, %d and %t", floors, s, fb, want, next, command, arrived, wantNext, wantCommand, wantArrived)
	}
	if !motion.IsState(floors, next) {
		t.Fatalf("%d floors, behind Step of %+v, %+v, want %d is no state: %+v", floors, s, fb, want, next)
	}
}

// P13.2: all states, reports and commands for cars with up to eight floors.
func TestFewFloors(t *testing.T) {
	for floors := 2; floors <= 8; floors++ {
		var all []int
		for floor := range floors {
			all = append(all, floor)
		}
		for _, s := range states(floors, 0, 1, 2, 9, most-2, most-1, most) {
			for _, fb := range reports(all...) {
				for want := none; want <= api.CmdNudge+1; want++ {
					expectModel(t, floors, s, fb, want)
				}
			}
		}
	}
}

// P13.2: cars with more floors, near the ends of the building, where steps begin and beside that.
func TestManyFloors(t *testing.T) {
	for floors := 9; floors <= 32; floors++ {
		for _, s := range states(floors, 0, 7, most) {
			near := []int{0, 1, floors / 2, floors - 2, floors - 1, s.Floor, max(s.Floor-1, 0), min(s.Floor+1, floors-1)}
			for _, floor := range near {
				for _, fb := range []api.Feedback{at(floor), between(floor)} {
					for want := none; want <= api.CmdOpen; want++ {
						expectModel(t, floors, s, fb, want)
					}
				}
			}
		}
	}
}

// P13.2: samples with any times and commands.
func TestSamples(t *testing.T) {
	r := rand.New(rand.NewSource(13))
	for range 200000 {
		floors := 2 + r.Intn(31)
		l := states(floors, r.Intn(most+1))
		fb := api.Feedback{Floor: r.Intn(floors), Level: r.Intn(2) == 1, Door: r.Intn(4), Block: r.Intn(2) == 1}
		want := r.Intn(4)
		if r.Intn(8) == 0 {
			want = int(r.Uint64())
		}
		expectModel(t, floors, l[r.Intn(len(l))], fb, want)
	}
}
