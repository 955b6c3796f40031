package infix_test

import (
	"fmt"
	"math"
	"slices"
	"strings"

	"verge/api"
)

// What the tests hand in.

// dice are numbers that look like chance, the same at every run.
type dice uint64

func (d *dice) next() uint64 {
	*d ^= *d << 13
	*d ^= *d >> 7
	*d ^= *d << 17
	return uint64(*d) * 0x2545f4914f6cdd1d
}

func (d *dice) below(n int) int { return int(d.next() >> 1 % uint64(n)) }

func pick[T any](d *dice, l ...T) T { return l[d.below(len(l))] }

// list tells n things, each told by tell.
func list[T any](n int, tell func() T) []T {
	out := make([]T, n)
	for i := range out {
		out[i] = tell()
	}
	return out
}

// Formulas.

func numerals() []string {
	return []string{"0", "1", "2", "00", "01", "10", "1024", "1025", "99999999999999999999", "1.", "1.5", "0.1", "1e3", "1E-3", "1e+03", "2.e1", "0x1p1", "0X.8P-1", "0x1.8p+1", "0xA.p0", "1e400", "1e-400", "0x1p9999"}
}

func literals() []string {
	return []string{"[1]", "[]", "[ 1 , 2 ]", "[empty]", "[Entire]", "[1/3]", "[-inf,0x1p3]", "[,]", "[0.1,\n0.2]"}
}

// formulas in one place of the grammar, as their tokens; deep tells how far they may nest.
type growing struct {
	*dice
	known []string
	deep  int
}

func (g *growing) sum() []string {
	return g.joined(g.product, "+", "-")
}

func (g *growing) product() []string {
	return g.joined(g.signed, "*", "/")
}

func (g *growing) joined(next func() []string, signs ...string) []string {
	out := next()
	for g.below(3) == 0 {
		out = append(append(out, pick(g.dice, signs...)), next()...)
	}
	return out
}

func (g *growing) signed() []string {
	if g.below(5) == 0 {
		return append([]string{"-"}, g.signed()...)
	}
	out := g.atom()
	if g.below(4) == 0 {
		out = append(append(out, "^"), g.whole()...)
	}
	return out
}

func (g *growing) whole() []string {
	n := pick(g.dice, "0", "1", "2", "3", fmt.Sprint(g.below(1025)), "1024")
	if g.below(3) == 0 {
		return []string{"-", n}
	}
	return []string{n}
}

func (g *growing) atom() []string {
	choice := g.below(12)
	if g.deep <= 0 {
		choice = g.below(6)
	}
	g.deep--
	defer func() { g.deep++ }()
	switch choice {
	case 0:
		return []string{pick(g.dice, numerals()...)}
	case 1:
		return []string{pick(g.dice, literals()...)}
	case 2, 3, 4, 5:
		if len(g.known) == 0 {
			return []string{"7"}
		}
		return []string{pick(g.dice, g.known...)}
	case 6, 7:
		return append(append([]string{"("}, g.sum()...), ")")
	case 8:
		return g.call("pown", 1, g.whole())
	case 9:
		return g.call(pick(g.dice, "min", "max"), 2, nil)
	case 10:
		return g.call("fma", 3, nil)
	}
	return g.call(pick(g.dice, "id", "sqr", "sqrt", "recip", "abs", "sign", "floor", "ceil", "trunc", "even", "away"), 1, nil)
}

func (g *growing) call(word string, sums int, more []string) []string {
	out := append([]string{word, "("}, g.sum()...)
	for range sums - 1 {
		out = append(append(out, ","), g.sum()...)
	}
	if more != nil {
		out = append(append(out, ","), more...)
	}
	return append(out, ")")
}

// formula tells the tokens of a formula without a fault over variables of these names.
func (d *dice) formula(names []string, deep int) []string {
	g := growing{d, slices.Clone(names), deep}
	var out []string
	for d.below(2) == 0 {
		name := fmt.Sprintf("%s%d", pick(d, "s", "t_", "Ab_c"), len(g.known))
		out = append(append(append(out, name, "="), g.sum()...), ";")
		g.known = append(g.known, name)
	}
	return append(out, g.sum()...)
}

// laid tells tokens as a text, with blanks between them where they are needed, and now and then elsewhere.
func (d *dice) laid(toks []string) string {
	var b strings.Builder
	for i, t := range toks {
		sticks := i > 0 && inWord(toks[i-1][len(toks[i-1])-1]) && inWord(t[0])
		for sticks || d.below(4) == 0 {
			b.WriteByte(pick[byte](d, ' ', ' ', ' ', '\t', '\n', '\r'))
			sticks = false
		}
		b.WriteString(t)
	}
	for d.below(6) == 0 {
		b.WriteByte(pick[byte](d, ' ', '\n'))
	}
	return b.String()
}

func inWord(c byte) bool {
	return c == '.' || c == '_' || c >= '0' && c <= '9' || c >= 'a' && c <= 'z' || c >= 'A' && c <= 'Z'
}

// strays are tokens, and bytes that begin none.
func strays() []string {
	out := []string{"x", "y", "z", "unknown", "1", "0", "01", "1.5", "1e3", "1025", "[1]", "[2,1]", "[", "]", "[nai]", "+", "-", "*", "/", "^", "(", ")", ",", ";", "=", "$", "_", ".", "?", "\x00", "\x80", "\u00e4", "1e10000", strings.Repeat("n", 65)}
	return append(out, wordList()...)
}

// spoilt changes tokens a little: they may still be a formula.
func (d *dice) spoilt(toks []string) []string {
	toks = slices.Clone(toks)
	at := d.below(len(toks))
	switch d.below(5) {
	case 0:
		return slices.Delete(toks, at, at+1)
	case 1:
		return slices.Insert(toks, at, pick(d, strays()...))
	case 2:
		toks[at] = pick(d, strays()...)
	case 3:
		with := d.below(len(toks))
		toks[at], toks[with] = toks[with], toks[at]
	case 4:
		return toks[:at+1]
	}
	return toks
}

// Programs.

func (d *dice) small() float64 { return math.Ldexp(float64(d.below(33)-16), -d.below(4)) }

// constant tells an interval that is valid as it stands.
func (d *dice) constant() api.Interval {
	x, y := d.small(), d.small()
	switch d.below(8) {
	case 0:
		return pick(d, empty, entire, iv(0, inf), iv(-inf, -greatest), iv(least, least), iv(-least, 0), iv(-greatest, greatest))
	case 1:
		x = math.Ldexp(float64(d.next()>>11), -1074+d.below(2046))
		y = x
	case 2:
		y = x
	}
	return iv(min(x, y)+0, max(x, y)+0)
}

// line tells a line of an operation that may stand at a place of a program, if one may.
func (d *dice) line(op, at, vars, consts int) (in api.Ins, ok bool) {
	in.Op = op
	for _, name := range uses(op) {
		below := vars + at
		switch {
		case name == 'N' && op == api.OpPown:
			in.N = pick(d, 2, 3, -1, -2, 0, 1, d.below(2049)-1024, 1024, -1024)
			continue
		case name == 'N':
			below = consts
		}
		if below == 0 {
			return in, false
		}
		*fieldOf(&in, name) = d.below(below)
	}
	return in, true
}

// program tells one with which nothing is wrong.
func (d *dice) program(vars, consts, lines int) api.Program {
	p := api.Program{Vars: vars, Consts: list(consts, d.constant)}
	if vars+consts == 0 {
		p.Consts = box{iv(1, 2)}
	}
	for len(p.Code) < lines {
		if in, ok := d.line(pick(d, ops()...), len(p.Code), vars, len(p.Consts)); ok {
			p.Code = append(p.Code, in)
		}
	}
	return p
}

// names tells so many names that may be, some of which look like those that Print makes.
func (d *dice) names(n int) []string {
	var out []string
	for len(out) < n {
		name := pick(d, "x", "y", "X", "v", "n_", "tt", "t", "sqrt2", "Min") + pick(d, "", "1", fmt.Sprint(d.below(40)))
		if d.below(2) == 0 {
			name = "t" + strings.Repeat("_", d.below(3)) + pick(d, fmt.Sprint(d.below(12)), "00", "01", "", "_")
		}
		if d.below(20) == 0 {
			name = "q" + strings.Repeat("_", 62) + fmt.Sprint(d.below(10))
		}
		if nameMayBe(name) && !slices.Contains(out, name) {
			out = append(out, name)
		}
	}
	return out
}

// copied tells the same program in memory of its own.
func copied(p api.Program) api.Program {
	return api.Program{Vars: p.Vars, Consts: slices.Clone(p.Consts), Code: slices.Clone(p.Code)}
}

// sums tells a program of so many lines, each of which adds the last value and a variable.
func sums(vars, lines int) api.Program {
	p := api.Program{Vars: vars}
	for at := range lines {
		p.Code = append(p.Code, api.Ins{Op: api.OpAdd, A: vars + at - 1, B: at % vars})
	}
	return p
}

// fixed tells a program of so many constants and lines OpConst, without variables.
func fixed(consts, lines int) api.Program {
	p := api.Program{}
	for i := range consts {
		p.Consts = append(p.Consts, iv(float64(i), float64(i+1)))
	}
	for at := range lines {
		p.Code = append(p.Code, api.Ins{Op: api.OpConst, N: at % consts})
	}
	return p
}

// each tells a program with a line of every operation.
func each() api.Program {
	d := dice(17000)
	p := api.Program{Vars: 3, Consts: box{iv(1, 2), empty, entire, iv(0.1, 0.1)}}
	for _, op := range ops() {
		in, _ := d.line(op, len(p.Code), 3, 4)
		p.Code = append(p.Code, in)
	}
	return p
}
