// Package building: the configuration, and the bounds that follow from it. See ../../shared/doc/01-building.md.
package building

import (
	"math"

	"overlay/api"
)

// Valid returns the first error of the configuration, or OK.
func Valid(b api.Building) api.Errno {
	switch {
	case !within(2, api.MaxFloors, b.Floors):
		return api.ErrFloors
	case !within(1, api.MaxCars, len(b.Cars)):
		return api.ErrCars
	case !timesFit(b):
		return api.ErrTimes
	case !ascending(0, b.Empty, b.Full, b.Over, math.Inf(1)): // what lies between 0 and infinity is finite
		return api.ErrLoads
	case !within(18*len(b.Cars)+24, api.MaxRoom, b.Room):
		return api.ErrRoom
	}
	return api.OK
}

// timesFit reports whether the times of the building and of all its cars are in their ranges, and each Home is a floor.
func timesFit(b api.Building) bool {
	if !within(1, api.MaxDebounce, b.Debounce) || !within(1, api.MaxTime, b.Park) {
		return false
	}
	for _, c := range b.Cars {
		if !carFits(b.Floors, c) {
			return false
		}
	}
	return true
}

func carFits(floors int, c api.Car) bool {
	return within(1, api.MaxTime, c.Deadline, c.Pulse, c.Quiet, c.Step, c.Travel, c.Dwell, c.Hold) &&
		within(0, api.MaxTime, c.Slack) &&
		c.Dwell <= c.Hold &&
		within(0, floors-1, c.Home)
}

// within reports whether all values are from low to high.
func within(low, high int, values ...int) bool {
	for _, v := range values {
		if v < low || v > high {
			return false
		}
	}
	return true
}

// ascending reports whether each value is below the next one. The comparison must not be turned round:
// it is false for NaN, and so NaN is refused.
func ascending(values ...float64) bool {
	for i := 1; i < len(values); i++ {
		if !(values[i-1] < values[i]) {
			return false
		}
	}
	return true
}

// IsCall reports whether b is valid and a floor with a direction is a hall call.
func IsCall(b api.Building, floor, dir int) bool {
	if Valid(b) != api.OK {
		return false
	}
	switch dir {
	case api.DirUp:
		return within(0, b.Floors-2, floor)
	case api.DirDown:
		return within(1, b.Floors-1, floor)
	}
	return false
}

// Hall returns the set of all hall calls; the empty set if b is not valid.
func Hall(b api.Building) api.Calls {
	if Valid(b) != api.OK {
		return api.Calls{}
	}
	floors := uint32(1)<<b.Floors - 1 // also with 32 floors: the shift leaves 0, and 0 - 1 is all bits
	return api.Calls{Up: floors >> 1, Down: floors &^ 1}
}

// Cycle returns the longest time of a door cycle.
func Cycle(c api.Car) int {
	return 2*c.Travel + c.Hold + 3
}

// Service returns the longest time in which a modernised car serves a call; 0 if b is not valid or has no such car.
func Service(b api.Building, car int) int {
	if Valid(b) != api.OK || !within(0, len(b.Cars)-1, car) {
		return 0
	}
	c := b.Cars[car]
	return (3*b.Floors + 1) * (3*Cycle(c) + c.Step + 2)
}

// Bound returns the number of ticks within which a registered call is served; 0 if b is not valid.
func Bound(b api.Building) int {
	if Valid(b) != api.OK {
		return 0
	}
	longest := 0
	for car, c := range b.Cars {
		longest = max(longest, c.Deadline, Service(b, car))
	}
	return (len(b.Cars) + 2) * (longest + 2)
}
