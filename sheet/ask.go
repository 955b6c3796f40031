package sheet

import (
	"verge/api"
	"verge/deco"
	"verge/expr"
	"verge/fold"
	"verge/pare"
	"verge/sieve"
	"verge/slope"
)

// The commands that ask other layers.

func (s *sheet) op(l *line) deed {
	o := l.operation()
	args := l.items(o.args)
	return func() ([]string, error) { return exactDecos(deco.Apply(o.op, 0, args...)), nil }
}

func (s *sheet) pown(l *line) deed {
	n, x := l.whole(), l.item()
	return func() ([]string, error) { return exactDecos(deco.Apply(api.OpPown, n, x)), nil }
}

func (s *sheet) back(l *line) deed {
	o, place := l.operation(), l.number()
	c, x, others := l.item(), l.item(), l.items(o.args-1)
	return func() ([]string, error) { return exactDecos(deco.BackDeco(o.op, 0, place, c, x, others...)), nil }
}

func (s *sheet) eval(l *line) deed {
	f, b := next[formula](l), next[box](l)
	return func() ([]string, error) {
		g, e := expr.New(f.program)
		if e != api.OK {
			return nil, e
		}
		y, e := g.EvalDeco(b)
		if e != api.OK {
			return nil, e
		}
		return exactDecos(y), nil
	}
}

func (s *sheet) trace(l *line) deed {
	f, b := next[formula](l), next[box](l)
	return func() ([]string, error) {
		g, e := expr.New(f.program)
		if e != api.OK {
			return nil, e
		}
		values, e := g.Trace(b.bare())
		if e != api.OK {
			return nil, e
		}
		return exact(values...), nil
	}
}

func (s *sheet) slopes(l *line) deed {
	f, b := next[formula](l), next[box](l)
	return func() ([]string, error) {
		value, slopes, e := slope.Slopes(f.program, b.bare())
		if e != api.OK {
			return nil, e
		}
		return append(exact(value), exact(slopes...)...), nil
	}
}

func (s *sheet) mean(l *line) deed {
	f, b := next[formula](l), next[box](l)
	return func() ([]string, error) { return exactly(slope.MeanValue(f.program, b.bare())) }
}

func (s *sheet) newton(l *line) deed {
	f, b, part := next[formula](l), next[box](l), l.number()
	return func() ([]string, error) { return exactly(slope.Newton(f.program, b.bare(), part)) }
}

func (s *sheet) fold(l *line) deed {
	of, workers, b := l.folding(), l.number(), next[box](l)
	return func() ([]string, error) { return exactly(of(b.bare(), workers)) }
}

func (s *sheet) dot(l *line) deed {
	workers, a, b := l.number(), next[box](l), next[box](l)
	return func() ([]string, error) { return exactly(fold.Dot(a.bare(), b.bare(), workers)) }
}

func (s *sheet) pare(l *line) deed {
	rounds, name := l.number(), l.name()
	b, goals := find[box](l, name), l.goals()
	return func() ([]string, error) {
		left, made, e := pare.Fix(goals, b.bare(), rounds)
		if e != api.OK {
			return nil, e
		}
		s.known[name] = boxOf(left)
		return append([]string{okay(made)}, exact(left...)...), nil
	}
}

func (s *sheet) pave(l *line) deed {
	limits := api.Limits{Width: l.width(), Boxes: l.number(), Rounds: l.number(), Workers: l.number()}
	b, goals := next[box](l), l.goals()
	return func() ([]string, error) {
		p, e := sieve.Pave(goals, b.bare(), limits)
		if e != api.OK {
			return nil, e
		}
		out := []string{okay(len(p.Inner), len(p.Edge), len(p.Left), p.Boxes, p.Rounds)}
		out = append(out, each("inner", p.Inner)...)
		out = append(out, each("edge", p.Edge)...)
		return append(out, each("left", p.Left)...), nil
	}
}

func (s *sheet) bytes(l *line) deed {
	f := next[formula](l)
	return func() ([]string, error) {
		b, e := expr.Encode(f.program)
		if e != api.OK {
			return nil, e
		}
		return []string{pairsOf(b)}, nil
	}
}
