package infix

import (
	"slices"
	"strconv"
	"strings"

	"verge/api"
	"verge/lit"
)

// writer tells the lines of a program as texts.
type writer struct {
	consts   []api.Interval
	operands []string // their names: the variables', then those of the lines
}

// written tells the formula of a program with which nothing is wrong, over variables of names that may be.
func written(p api.Program, names []string) string {
	last := len(p.Code) - 1
	w := writer{p.Consts, slices.Concat(names, lineNames(last, names))}
	var b strings.Builder
	for i, in := range p.Code[:last] {
		b.WriteString(w.operands[p.Vars+i] + " = " + w.text(in) + "; ")
	}
	b.WriteString(w.text(p.Code[last]))
	return b.String()
}

// lineNames tells names for so many lines, none of which is one of the variables'.
func lineNames(lines int, names []string) []string {
	for stem := "t"; ; stem += "_" {
		out := make([]string, lines)
		for i := range out {
			out[i] = stem + strconv.Itoa(i)
		}
		if !slices.ContainsFunc(names, func(name string) bool { return slices.Contains(out, name) }) {
			return out
		}
	}
}

// text tells a line.
func (w writer) text(in api.Ins) string {
	if in.Op == api.OpConst {
		return lit.Exact(w.consts[in.N])
	}
	if in.Op == api.OpNeg {
		return "-" + w.operands[in.A]
	}
	if sign, ok := signFor(in.Op); ok {
		return w.operands[in.A] + " " + sign + " " + w.operands[in.B]
	}
	return w.call(in)
}

func (w writer) call(in api.Ins) string {
	word := wordFor(in.Op)
	var of []string
	for _, x := range []int{in.A, in.B, in.C}[:word.sums] {
		of = append(of, w.operands[x])
	}
	if in.Op == api.OpPown {
		of = append(of, strconv.Itoa(in.N))
	}
	return word.text + "(" + strings.Join(of, ", ") + ")"
}
