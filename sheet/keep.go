package sheet

import (
	"maps"
	"slices"
	"strconv"

	"verge/api"
	"verge/expr"
	"verge/infix"
	"verge/lit"
)

// The commands that keep something, tell what is kept, or let it go.

func (s *sheet) vars(l *line) deed {
	names := l.names()
	return func() ([]string, error) {
		if !mayBe(names) {
			return nil, api.ErrName
		}
		s.variables = names
		return []string{okay(len(names))}, nil
	}
}

func (s *sheet) let(l *line) deed {
	name, text := l.name(), l.rest()
	return func() ([]string, error) {
		x, at, e := lit.ReadDeco(text)
		if e != api.OK {
			return nil, placed{e, at}
		}
		s.known[name] = interval(x)
		return []string{okay()}, nil
	}
}

func (s *sheet) box(l *line) deed {
	name, text := l.name(), l.rest()
	return func() ([]string, error) {
		b, err := s.known.box(text)
		if err != nil {
			return nil, err
		}
		s.known[name] = b
		return []string{okay(len(b))}, nil
	}
}

func (s *sheet) form(l *line) deed {
	name, text := l.name(), l.rest()
	return func() ([]string, error) {
		p, at, e := infix.Parse(text, s.variables)
		if e != api.OK {
			return nil, placed{e, at}
		}
		return s.keepFormula(name, formula{p, s.variables}), nil
	}
}

func (s *sheet) load(l *line) deed {
	name, b := l.name(), l.bytes()
	return func() ([]string, error) {
		p, at, e := expr.Decode(b)
		if e != api.OK {
			return nil, placed{e, at}
		}
		var names []string
		for i := range p.Vars {
			names = append(names, "v"+strconv.Itoa(i))
		}
		return s.keepFormula(name, formula{p, names}), nil
	}
}

func (s *sheet) keepFormula(name string, f formula) []string {
	s.known[name] = f
	return []string{okay(len(f.program.Code), len(f.program.Consts))}
}

func (s *sheet) goal(l *line) deed {
	name, f, text := l.name(), next[formula](l), l.rest()
	return func() ([]string, error) {
		x, at, e := lit.Read(text)
		if e != api.OK {
			return nil, placed{e, at}
		}
		s.known[name] = goal{f, x}
		return []string{okay()}, nil
	}
}

func (s *sheet) show(l *line) deed {
	x := next[thing](l)
	return func() ([]string, error) { return x.shown() }
}

func (s *sheet) print(l *line) deed {
	n, x := l.number(), next[listed](l)
	return func() ([]string, error) {
		var out []string
		for _, part := range x.parts() {
			text, e := lit.PrintDeco(part, n)
			if e != api.OK {
				return nil, e
			}
			out = append(out, text)
		}
		return out, nil
	}
}

func (s *sheet) drop(l *line) deed {
	name := l.name()
	find[thing](l, name)
	return func() ([]string, error) {
		delete(s.known, name)
		return []string{okay()}, nil
	}
}

func (s *sheet) clear(*line) deed {
	return func() ([]string, error) {
		clear(s.known)
		return []string{okay()}, nil
	}
}

func (s *sheet) names(*line) deed {
	return func() ([]string, error) {
		var out []string
		for _, name := range slices.Sorted(maps.Keys(s.known)) {
			out = append(out, name+" "+s.known[name].kind())
		}
		return out, nil
	}
}
