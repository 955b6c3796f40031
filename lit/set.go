package lit

import (
	"verge/api"
	"verge/deco"
	"verge/digits"
	"verge/ival"
)

// literal is what a decorated literal says; a bare one says its set alone.
type literal struct {
	set
	rank int
}

// set is what a bare literal means: all reals from the number of one numeral to that of another, with
// no bound where there is no numeral; or none of them; or, of [nai], no set at all.
type set struct {
	ill, void bool
	low, high string
}

// bounded: as it is written. (The empty set has no bounds.)
func (s set) bounded() bool { return s.low != "" && s.high != "" }

// mayHave tells whether a set may be given a decoration.
func (s set) mayHave(d int) bool {
	switch d {
	case api.Com:
		return s.bounded()
	case api.Dac, api.Def:
		return !s.void
	}
	return true
}

func (s set) interval() api.Interval {
	if s.void {
		return ival.Empty()
	}
	x := ival.Entire()
	if s.low != "" {
		x.Lo, _, _ = digits.Read(api.Down, s.low)
	}
	if s.high != "" {
		x.Hi, _, _ = digits.Read(api.Up, s.high)
	}
	return x
}

func (l literal) decorated() api.Deco {
	if l.ill {
		return deco.NaI()
	}
	return deco.Set(l.interval(), l.rank)
}
