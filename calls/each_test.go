package calls

import (
	"slices"
	"testing"

	"overlay/api"
)

// Way range-function: who ranges over the calls of a set may stop at any one of them.
func TestEachStops(t *testing.T) {
	c := api.Calls{Up: 5, Down: 1<<31 | 4}
	whole := []api.Entry{{Floor: 0, Dir: api.DirUp}, {Floor: 2, Dir: api.DirUp}, {Floor: 2, Dir: api.DirDown}, {Floor: 31, Dir: api.DirDown}}
	for size := 1; size <= len(whole); size++ {
		var got []api.Entry
		for floor, dir := range each(c) {
			got = append(got, api.Entry{Floor: floor, Dir: dir})
			if len(got) == size {
				break
			}
		}
		if !slices.Equal(got, whole[:size]) {
			t.Errorf("%d calls of %+v: got %+v, want %+v", size, c, got, whole[:size])
		}
	}
}
