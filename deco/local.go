package deco

import (
	"verge/api"
	"verge/ival"
	"verge/rel"
)

// Local tells an operation's range and its own decoration.
func Local(op, n int, args ...api.Interval) (api.Interval, int) {
	y, s, found := over(op, n, args)
	if !found {
		return ival.Empty(), api.Ill
	}
	s.bounded = rel.IsCommon(y)
	for _, x := range args {
		s.defined = s.defined && !rel.IsEmpty(x)
		s.bounded = s.bounded && rel.IsCommon(x)
	}
	return y, fall(api.Com, s)
}

// sure is what can be said for sure of an operation over its arguments, or of an interval itself.
type sure struct {
	defined bool // at all elements, of which there are some
	steady  bool // it is continuous there, if it is defined
	bounded bool // no end is infinite
}

// fall tells the strongest decoration, of d and those below it, that holds: Ill, if d is none.
func fall(d int, s sure) int {
	switch d {
	case api.Com:
		if s.defined && s.steady && s.bounded {
			return api.Com
		}
		fallthrough
	case api.Dac:
		if s.defined && s.steady {
			return api.Dac
		}
		fallthrough
	case api.Def:
		if s.defined {
			return api.Def
		}
		fallthrough
	case api.Trv:
		return api.Trv
	}
	return api.Ill
}

// over tells the range of an operation over its arguments, whether it is defined all over them (if
// none is Empty) and steady, and whether there is such an operation with so many arguments.
func over(op, n int, args []api.Interval) (y api.Interval, s sure, found bool) {
	switch len(args) {
	case 1:
		if one, ok := alone(op, n); ok {
			y = one.of(args[0])
			return y, sure{defined: !one.gap(args[0]), steady: !one.step || rel.IsSingleton(y)}, true
		}
	case 2:
		if two, ok := pairs()[op]; ok {
			return two.of(args[0], args[1]), sure{defined: !two.gap(args[1]), steady: true}, true
		}
	case 3:
		if three, ok := triples()[op]; ok {
			return three.of(args[0], args[1], args[2]), sure{defined: true, steady: true}, true
		}
	}
	return y, s, false
}
