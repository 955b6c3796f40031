package slope

import (
	"slices"

	"verge/api"
	"verge/deco"
	"verge/expr"
	"verge/ival"
	"verge/meas"
	"verge/rel"
)

// book is the program's: what its lines are, and the engine that runs them.
type book struct {
	vars   int
	code   []api.Ins
	engine *expr.Engine
}

// at tells what the program makes of a point.
func (b book) at(point []api.Interval) api.Deco {
	sure := make([]api.Deco, len(point))
	for i, x := range point {
		sure[i] = deco.New(x)
	}
	y, _ := b.engine.EvalDeco(sure)
	return y
}

// over tells what the program makes of a box, in one run: what Eval answers is the last one of Trace's
// lines, but where one of them is Empty.
func (b book) over(box []api.Interval) (values, api.Errno) {
	lines, e := b.engine.Trace(box)
	if e != api.OK {
		return values{}, e
	}
	whole := lines[len(lines)-1]
	if slices.Contains(lines, ival.Empty()) {
		whole = ival.Empty()
	}
	known := make([]api.Interval, 0, len(box)+len(lines))
	for _, x := range box {
		known = append(known, ival.Read(x))
	}
	return values{parts: len(box), known: append(known, lines...), whole: whole}, api.OK
}

// values are the box's: its parts as they are read, and what each line makes of them, both by the
// numbers that they have as operands; and what Eval answers.
type values struct {
	parts int
	known []api.Interval
	whole api.Interval
}

func (v values) of(operand int) api.Interval { return v.known[operand] }

// middle tells the one number in the middle of a part.
func (v values) middle(part int) api.Interval { return number(meas.Mid(v.known[part])) }

// middles tells the point in the middle of the box.
func (v values) middles() []api.Interval {
	out := make([]api.Interval, v.parts)
	for i := range out {
		out[i] = v.middle(i)
	}
	return out
}

// away tells how a part's elements lie to its middle.
func (v values) away(part int) api.Interval { return ival.Sub(v.known[part], v.middle(part)) }

// noPart is the number of none, where one is asked for that is to be left out.
const noPart = -1

// spread tells how far the program's values reach from what it makes of the middle, if all variables
// but one go as far as their parts do.
func (v values) spread(middle api.Interval, slopes []api.Interval, but int) api.Interval {
	for i, s := range slopes {
		if i != but {
			middle = ival.Add(middle, ival.Mul(s, v.away(i)))
		}
	}
	return middle
}

// run is what a call needs.
type run struct {
	book
	values
}

func begin(p api.Program, box []api.Interval) (run, api.Errno) {
	g, e := expr.New(p)
	if e != api.OK {
		return run{}, e
	}
	b := book{vars: p.Vars, code: p.Code, engine: g}
	v, e := b.over(box)
	return run{b, v}, e
}

// slopes tells those of the last line.
func (r run) slopes() []api.Interval {
	if rel.IsEmpty(r.whole) {
		return filled(r.vars, ival.Empty())
	}
	ahead := make([][]api.Interval, 0, len(r.known)) // by the numbers of operands
	for v := range r.vars {
		own := filled(r.vars, number(0))
		own[v] = number(1)
		ahead = append(ahead, own)
	}
	for i := range r.code {
		ahead = append(ahead, r.line(i, ahead))
	}
	return ahead[len(ahead)-1]
}

// line tells a line's slopes, of those ahead of it.
func (r run) line(i int, ahead [][]api.Interval) []api.Interval {
	in := r.code[i]
	// An operand that is not used is 0, and may be looked at all the same: there is a value of that number,
	// and slopes, too, if there is a variable to ask for.
	made := ruleOf(in, r.of(in.A), r.of(in.B), r.of(r.vars+i))
	out := make([]api.Interval, r.vars)
	for v := range out {
		out[v] = made(ahead[in.A][v], ahead[in.B][v], ahead[in.C][v])
	}
	return out
}

func filled(n int, x api.Interval) []api.Interval {
	out := make([]api.Interval, n)
	for i := range out {
		out[i] = x
	}
	return out
}
