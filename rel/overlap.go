package rel

import (
	"verge/api"
	"verge/ival"
)

// Overlap tells how two lie to one another.
func Overlap(x, y api.Interval) int {
	x, y = ival.Read(x), ival.Read(y)
	switch {
	case void(x) && void(y):
		return api.BothEmpty
	case void(x):
		return api.FirstEmpty
	case void(y):
		return api.SecondEmpty
	case x.Hi < y.Hi, x.Hi == y.Hi && x.Lo >= y.Lo:
		return upToEquals(x, y)
	}
	// From Before the states count up to Equals, and those across from them on to After, the last
	// one first: two across from each other make the same sum.
	return api.Before + api.After - upToEquals(y, x)
}

// upToEquals tells the state of two, neither Empty, of which x ends no later than y and, if they
// end alike, begins no earlier.
func upToEquals(x, y api.Interval) int {
	switch {
	case x == y:
		return api.Equals
	case x.Hi == y.Hi:
		return api.Finishes
	case x.Lo > y.Lo:
		return api.ContainedBy
	case x.Lo == y.Lo:
		return api.Starts
	case x.Hi > y.Lo:
		return api.Overlaps
	case x.Hi == y.Lo:
		return api.Meets
	}
	return api.Before
}
