package expr

import (
	"verge/api"
	"verge/deco"
	"verge/ival"
)

// line is a line of a program made ready to be run: how it is done; of a constant what it is.
type line struct {
	api.Ins
	do    doing
	fixed api.Deco
}

// doing tells a line's value and its decoration, from the values of the variables and of the lines
// ahead of it.
type doing func(l *line, ahead []api.Interval) (api.Interval, int)

func (l *line) constant([]api.Interval) (api.Interval, int) { return l.fixed.X, l.fixed.D }

func (l *line) single(ahead []api.Interval) (api.Interval, int) {
	return deco.Local(l.Op, l.N, ahead[l.A])
}

func (l *line) pair(ahead []api.Interval) (api.Interval, int) {
	return deco.Local(l.Op, l.N, ahead[l.A], ahead[l.B])
}

func (l *line) triple(ahead []api.Interval) (api.Interval, int) {
	return deco.Local(l.Op, l.N, ahead[l.A], ahead[l.B], ahead[l.C])
}

// doings are by how many operands a line has.
func doings() [4]doing {
	return [4]doing{(*line).constant, (*line).single, (*line).pair, (*line).triple}
}

// prepare makes the lines ready.
func (g *Engine) prepare() {
	ways := doings()
	g.lines = make([]line, len(g.p.Code))
	for i, in := range g.p.Code {
		g.lines[i] = line{Ins: in, do: ways[operands(in.Op)]}
		if in.Op == api.OpConst {
			g.lines[i].fixed = deco.New(g.p.Consts[in.N])
		}
	}
}

// outcome is what the lines make of a box.
type outcome struct {
	lines   []api.Interval
	weakest int  // of the lines' decorations
	void    bool // a part or a line is Empty
}

// run goes through the lines, over a box with as many parts as there are variables.
func (g *Engine) run(box []api.Interval) outcome {
	g.ready.Do(g.prepare)
	values := make([]api.Interval, 0, len(box)+len(g.lines))
	out := outcome{weakest: api.Com}
	for _, x := range box {
		x = ival.Read(x)
		out.void = out.void || isEmpty(x)
		values = append(values, x)
	}
	nothing := out.void // as soon as a part is Empty, every line is
	for i := range g.lines {
		y, d := ival.Empty(), api.Trv
		if !nothing {
			y, d = g.lines[i].do(&g.lines[i], values)
		}
		out.void, out.weakest = out.void || isEmpty(y), min(out.weakest, d)
		values = append(values, y)
	}
	out.lines = values[len(box):]
	return out
}

// result tells the last line's value, which counts only where each line has one.
func (o outcome) result() api.Interval {
	if o.void {
		return ival.Empty()
	}
	return o.lines[len(o.lines)-1]
}

func isEmpty(x api.Interval) bool { return x == ival.Empty() }
