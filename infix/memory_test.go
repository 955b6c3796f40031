package infix_test

import (
	"slices"
	"testing"

	"verge/api"
	"verge/infix"
)

// R3 and R4

// roomy tells the same list with room behind it that holds others.
func roomy[T any](l []T, others ...T) []T {
	return append(append(make([]T, 0, len(l)+len(others)), l...), others...)[:len(l)]
}

func whole[T any](l []T) []T { return slices.Clone(l[:cap(l)]) }

// spoil writes over a list, and over the room behind it.
func spoil[T any](l []T, x T) {
	l = l[:cap(l)]
	for i := range l {
		l[i] = x
	}
}

func roomyProgram(p api.Program) api.Program {
	return api.Program{Vars: p.Vars, Consts: roomy(p.Consts, iv(nan, signed), iv(2, 1), iv(8, 9)), Code: roomy(p.Code, api.Ins{Op: 99, A: -5}, api.Ins{Op: api.OpConst, N: 1})}
}

func wholeProgram(p api.Program) api.Program {
	return api.Program{Vars: p.Vars, Consts: whole(p.Consts), Code: whole(p.Code)}
}

func spoilProgram(p api.Program) {
	spoil(p.Consts, iv(-77, 77))
	spoil(p.Code, api.Ins{Op: api.OpPown, N: 7})
}

// maybe tells a program that may be wrong.
func (d *dice) maybe() api.Program {
	p := d.program(d.below(4), d.below(4), 1+d.below(8))
	if d.below(3) == 0 {
		in := &p.Code[d.below(len(p.Code))]
		*pick(d, &in.Op, &in.A, &in.B, &in.C, &in.N, &p.Vars) = d.below(60) - 20
	}
	return p
}

// What is handed in stays as it was, spare room too, refused or not.
func TestHandedIn(t *testing.T) {
	d := dice(17701)
	for range 3000 {
		p := roomyProgram(d.maybe())
		names := roomy(d.names(pick(&d, max(p.Vars, 0), d.below(4))%40), "sqrt", "q", "")
		keptProgram, keptNames := wholeProgram(p), whole(names)
		infix.Normal(p)
		infix.Print(p, names)
		infix.Print(p, names[:cap(names)])
		infix.Parse(d.laid(d.formula(names, 2)), names)
		infix.Parse("t0 = x; $", names)
		if !sameProgram(wholeProgram(p), keptProgram) || !slices.Equal(whole(names), keptNames) {
			t.Errorf("%s and %q became %s and %q", shown(keptProgram), keptNames, shown(p), whole(names))
		}
	}
}

// What Normal answers is new memory, and its lists share none.
func TestNormalIsNewMemory(t *testing.T) {
	d := dice(17702)
	for range 3000 {
		p := d.program(d.below(4), d.below(4), 1+d.below(8))
		want := normal(p)
		if d.below(2) == 0 {
			p = want // nothing to be changed
		}
		handed := roomyProgram(p)
		first, _ := infix.Normal(handed)
		second, _ := infix.Normal(handed)
		spoilProgram(handed)
		if !sameProgram(first, want) {
			t.Errorf("Normal(%s) became %s with what was handed in", shown(p), shown(first))
		}
		spoil(first.Consts, iv(7, 8))
		if !slices.Equal(first.Code, want.Code) {
			t.Errorf("the lines %v changed with the constants", first.Code)
		}
		spoil(first.Code, api.Ins{Op: 5})
		if !sameProgram(second, want) {
			t.Errorf("Normal(%s), then %s", shown(p), shown(second))
		}
		normals(t, copied(p), want)
	}
}

// So with Parse: what is written over an answer, or over the names, is seen in no other one.
func TestParseIsNewMemory(t *testing.T) {
	d := dice(17703)
	for range 1500 {
		names := roomy(xy(), "other")
		text := d.laid(d.formula(names, 3))
		want, _, e := parsed(text, xy())
		first, _, _ := infix.Parse(text, names)
		second, _, _ := infix.Parse(text, names)
		spoil(names, "spoilt")
		if e != api.OK {
			continue
		}
		spoil(first.Consts, iv(7, 8))
		if !slices.Equal(first.Code, want.Code) {
			t.Errorf("the lines %v changed with the constants", first.Code)
		}
		spoil(first.Code, api.Ins{Op: 5})
		if !sameProgram(second, want) {
			t.Errorf("Parse(%q), then %s", text, shown(second))
		}
		parses(t, text, xy(), want)
	}
}

// nil and an empty list are one.
func TestNothing(t *testing.T) {
	for _, names := range [][]string{nil, {}} {
		parses(t, "2", names, api.Program{Consts: box{iv(2, 2)}, Code: []api.Ins{{Op: api.OpConst}}})
		for _, consts := range []box{nil, {}} {
			p := api.Program{Vars: 1, Consts: consts, Code: []api.Ins{{Op: api.OpNeg}}}
			normals(t, p, p)
			prints(t, p, []string{"x"}, "-x")
			printsNot(t, p, names, api.ErrName)
		}
		prints(t, fixed(1, 1), names, "[0e0, 1e0]")
	}
}
