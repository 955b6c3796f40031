package sieve

import (
	"slices"

	"verge/api"
	"verge/expr"
	"verge/rel"
)

// search is what a paving is made from. Nothing of it changes behind its making, so that it may be made
// several times, also at one time.
type search struct {
	goals   []api.Goal
	engines []*expr.Engine
	box     []api.Interval // as it is read
	limits  api.Limits
}

// searchOf keeps copies of what is handed in; or it tells why that is refused.
func searchOf(goals []api.Goal, box []api.Interval, l api.Limits) (*search, api.Errno) {
	if len(goals) == 0 || len(goals) > api.MaxGoals {
		return nil, api.ErrGoals
	}
	s := &search{limits: l}
	for _, g := range goals {
		engine, e := expr.New(g.P)
		if e != api.OK {
			return nil, e
		}
		s.engines = append(s.engines, engine)
		s.goals = append(s.goals, copied(g))
	}
	if slices.ContainsFunc(goals, func(g api.Goal) bool { return g.P.Vars != len(box) }) {
		return nil, api.ErrBox
	}
	if !taken(l) {
		return nil, api.ErrLimit
	}
	for _, x := range box {
		s.box = append(s.box, rel.Intersect(x, x)) // what a part has in common with itself is all of it, as it is read
	}
	return s, api.OK
}

func taken(l api.Limits) bool {
	return l.Width >= 0 && // NaN is not
		l.Boxes >= 0 && l.Boxes <= api.MaxBoxes &&
		l.Rounds >= 0 && l.Rounds <= api.MaxRounds &&
		l.Workers >= 1 && l.Workers <= api.MaxWorkers
}

func copied(g api.Goal) api.Goal {
	g.P.Consts = slices.Clone(g.P.Consts)
	g.P.Code = slices.Clone(g.P.Code)
	return g
}

// each gives the boxes with their kinds, in the order in which they are found, until yield says false. It
// tells how many boxes were looked at, in how many rounds.
func (s *search) each(yield func(kind int, b []api.Interval) bool) (looked, rounds int) {
	waits := s.first()
	for len(waits) > 0 && rounds < s.limits.Rounds && looked+len(waits) <= s.limits.Boxes {
		looked += len(waits)
		rounds++
		waits = s.round(waits, yield)
	}
	for _, b := range waits {
		if !yield(Left, b) {
			break
		}
	}
	return looked, rounds
}

// first tells the boxes that wait at first, in new memory, as they may be given.
func (s *search) first() [][]api.Interval {
	if hasEmpty(s.box) {
		return nil
	}
	return [][]api.Interval{slices.Clone(s.box)}
}

// round looks at the boxes that wait, gives those that are inner or edge, and tells the ones that wait
// then: none, if yield has said false, so that nothing is done any more.
func (s *search) round(waits [][]api.Interval, yield func(kind int, b []api.Interval) bool) (then [][]api.Interval) {
	for f := range s.finds(waits) {
		if f.kind != 0 && !yield(f.kind, f.box) {
			return nil
		}
		then = append(then, f.halves...)
	}
	return then
}

func hasEmpty(b []api.Interval) bool { return slices.ContainsFunc(b, rel.IsEmpty) }
