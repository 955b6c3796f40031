package sieve

import (
	"slices"

	"verge/api"
	"verge/deco"
	"verge/meas"
	"verge/pare"
	"verge/rel"
)

// fixRounds: in so many rounds a box is made narrower, each time that it is looked at.
const fixRounds = 3

// find is what comes of a box that is looked at: an inner or an edge box, or two that wait, or nothing.
type find struct {
	kind   int // Inner or Edge; 0: neither
	box    []api.Interval
	halves [][]api.Interval
}

// look looks at a box whose parts are as they are read.
func (s *search) look(b []api.Interval) find {
	c, _, _ := pare.Fix(s.goals, b, fixRounds)
	if hasEmpty(c) {
		return find{}
	}
	if s.allMet(c) {
		return find{kind: Inner, box: c}
	}
	at, ok := s.cutAt(c)
	if !ok {
		return find{kind: Edge, box: c}
	}
	lower, upper, _ := rel.Bisect(c[at])
	return find{halves: [][]api.Interval{with(c, at, lower), with(c, at, upper)}}
}

// allMet tells whether it is sure that each point of a box meets all goals.
func (s *search) allMet(b []api.Interval) bool {
	parts := make([]api.Deco, len(b))
	for i, x := range b {
		parts[i] = deco.New(x)
	}
	for i, g := range s.goals {
		y, _ := s.engines[i].EvalDeco(parts)
		if y.D < api.Def || !rel.Subset(y.X, g.C) {
			return false
		}
	}
	return true
}

// cutAt tells which part of a box is to be cut, the widest, of several the first one; ok: there is one.
func (s *search) cutAt(b []api.Interval) (at int, ok bool) {
	most := s.limits.Width
	for i, x := range b {
		if w := meas.Wid(x); w > most && canBeCut(x) {
			at, ok, most = i, true, w
		}
	}
	return at, ok
}

func canBeCut(x api.Interval) bool {
	_, _, ok := rel.Bisect(x)
	return ok
}

// with tells a box, in memory of its own, with another part in that place.
func with(b []api.Interval, at int, x api.Interval) []api.Interval {
	out := slices.Clone(b)
	out[at] = x
	return out
}
