package pare

import (
	"math"
	"slices"

	"verge/api"
	"verge/expr"
	"verge/rel"
)

// aim is a goal made ready to be held against boxes, as often as there are rounds.
type aim struct {
	engine *expr.Engine
	vars   int
	lines  []line
	c      api.Interval
}

// line is a line, and what it does backward.
type line struct {
	api.Ins
	undo undo
}

// aimOf tells why a goal refuses a box with so many parts, if it does.
func aimOf(g api.Goal, parts int) (aim, api.Errno) {
	engine, e := expr.New(g.P)
	if e != api.OK {
		return aim{}, e
	}
	if g.P.Vars != parts {
		return aim{}, api.ErrBox
	}
	a := aim{engine: engine, vars: g.P.Vars, lines: make([]line, len(g.P.Code)), c: g.C}
	for i, in := range g.P.Code {
		a.lines[i] = line{in, undoOf(in)}
	}
	return a, api.OK
}

func aimsOf(goals []api.Goal, parts int) ([]aim, api.Errno) {
	out := make([]aim, len(goals))
	for i, g := range goals {
		a, e := aimOf(g, parts)
		if e != api.OK {
			return nil, e
		}
		out[i] = a
	}
	return out, api.OK
}

// leave tells what the goal leaves of a box, whose parts are as they are read.
func (a aim) leave(box []api.Interval) []api.Interval {
	known := a.forward(box)
	if hasEmpty(known) || a.backward(known) {
		return empties(len(box))
	}
	return slices.Clone(known[:len(box)])
}

// forward tells the values of the variables and of the lines, by the numbers that they have as
// operands; of the last one only what the goal allows.
func (a aim) forward(box []api.Interval) []api.Interval {
	lines, _ := a.engine.Trace(box)
	known := make([]api.Interval, 0, len(box)+len(lines))
	known = append(append(known, box...), lines...)
	last := len(known) - 1
	known[last] = rel.Intersect(known[last], a.c)
	return known
}

// backward narrows the values, from the last line to the first one; void: one has become Empty.
func (a aim) backward(known []api.Interval) (void bool) {
lines:
	for i := len(a.lines) - 1; i >= 0; i-- {
		l := a.lines[i]
		l.undo(known, known[a.vars+i])
		// What a line does not use is 0, and there is a value of that number.
		for _, operand := range [...]int{l.A, l.B, l.C} {
			if void = rel.IsEmpty(known[operand]); void {
				break lines
			}
		}
	}
	return void
}

// asRead tells a box in memory of its own: what a part has in common with itself is all of it, as it is
// read.
func asRead(box []api.Interval) []api.Interval {
	out := make([]api.Interval, len(box))
	for i, x := range box {
		out[i] = rel.Intersect(x, x)
	}
	return out
}

func hasEmpty(xs []api.Interval) bool { return slices.ContainsFunc(xs, rel.IsEmpty) }

// empties tells so many parts that are Empty.
func empties(n int) []api.Interval {
	out := make([]api.Interval, n)
	for i := range out {
		out[i] = api.Interval{Lo: math.Inf(1), Hi: math.Inf(-1)}
	}
	return out
}
