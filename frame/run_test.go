package frame

import (
	"testing"

	"overlay/api"
)

// P1 and R1: whatever a layout panics with, run returns an error, and its own one only for a value that is not allowed.
func TestRunNeverPanics(t *testing.T) {
	var none []int
	for name, x := range map[string]struct {
		layout func(f fields)
		want   api.Errno
	}{
		"nothing wrong": {func(f fields) { f.expect(true) }, api.OK},
		"a wrong value": {func(f fields) { f.expect(false) }, api.ErrValue},
		"an index":      {func(f fields) { none[0]++ }, api.ErrArg},
		"an error code": {func(f fields) { panic(api.ErrSum) }, api.ErrArg},
	} {
		if e := run(x.layout, fields{refusal: api.ErrValue}); e != x.want {
			t.Errorf("run, %s: got %d, want %d", name, e, x.want)
		}
	}
}
