package infix_test

import (
	"testing"

	"verge/api"
	"verge/expr"
	"verge/infix"
)

// The rows of the chapter's examples, and those of the document's page that formulas play a part in.

func xy() []string { return []string{"x", "y"} }

func TestExamplesOfParse(t *testing.T) {
	for _, row := range []struct {
		text   string
		consts box
		code   []api.Ins
	}{
		{"x", nil, []api.Ins{{Op: api.OpId, A: 0}}},
		{"x*y + 1", box{iv(1, 1)}, []api.Ins{{Op: api.OpMul, A: 0, B: 1}, {Op: api.OpConst, N: 0}, {Op: api.OpAdd, A: 2, B: 3}}},
		{"-x^2", nil, []api.Ins{{Op: api.OpPown, A: 0, N: 2}, {Op: api.OpNeg, A: 2}}},
		{"s = x - y; s*s/[1, 2]", box{iv(1, 2)}, []api.Ins{{Op: api.OpSub, A: 0, B: 1}, {Op: api.OpMul, A: 2, B: 2}, {Op: api.OpConst, N: 0}, {Op: api.OpDiv, A: 3, B: 4}}},
		{"1/3*x", box{iv(1, 1), iv(3, 3)}, []api.Ins{{Op: api.OpConst, N: 0}, {Op: api.OpConst, N: 1}, {Op: api.OpDiv, A: 2, B: 3}, {Op: api.OpMul, A: 4, B: 0}}},
		{"x^2/0x1p-1", box{iv(0.5, 0.5)}, []api.Ins{{Op: api.OpPown, A: 0, N: 2}, {Op: api.OpConst, N: 0}, {Op: api.OpDiv, A: 2, B: 3}}},
		{"x^-1024", nil, []api.Ins{{Op: api.OpPown, A: 0, N: -1024}}},
	} {
		want := api.Program{Vars: 2, Consts: row.consts, Code: row.code}
		parses(t, row.text, xy(), want)
		if p, at, e := parsed(row.text, xy()); e != api.OK || at != 0 || !sameProgram(p, want) {
			t.Errorf("by the words %q is %s, %d, %d", row.text, shown(p), at, e)
		}
	}
}

func TestExamplesOfFaults(t *testing.T) {
	for _, row := range []struct {
		text string
		at   int
		e    api.Errno
	}{
		{"", 0, api.ErrText}, {"x +", 3, api.ErrText}, {"x y", 2, api.ErrText}, {"z", 0, api.ErrName}, {"x = y; x", 0, api.ErrName}, {"min(x)", 5, api.ErrText}, {"x ^ 01", 4, api.ErrText},
		{"[2, 1]", 0, api.ErrText}, {"x $", 2, api.ErrText}, {"z + $", 0, api.ErrName}, {"x^1025", 2, api.ErrPower},
	} {
		refuses(t, row.text, xy(), row.at, row.e)
		if _, at, e := parsed(row.text, xy()); at != row.at || e != row.e {
			t.Errorf("by the words %q is %d, %d", row.text, at, e)
		}
	}
}

func TestExamplesOfPrint(t *testing.T) {
	p, _, _ := infix.Parse("x*y + 1", xy())
	prints(t, p, xy(), "t0 = x * y; t1 = [1e0]; t0 + t1")
}

// The tenth, the first three and the fifth of the whole.
func TestExamplesOfTheWhole(t *testing.T) {
	next, _, _ := infix.Parse("x+1", []string{"x"})
	prints(t, next, []string{"v0"}, "t0 = [1e0]; v0 + t0")
	com := func(lo, hi float64) api.Deco { return api.Deco{X: iv(lo, hi), D: api.Com} }
	for _, row := range []struct {
		text  string
		names []string
		parts []api.Deco
		want  api.Deco
	}{
		{"x*x", []string{"x"}, []api.Deco{com(-1, 2)}, com(-2, 4)},
		{"x^2", []string{"x"}, []api.Deco{com(-1, 2)}, com(0, 4)},
		{"1/x + y", xy(), []api.Deco{com(0, 1), com(1, 2)}, api.Deco{X: iv(2, inf), D: api.Trv}},
		{"x", xy(), []api.Deco{com(1, 2), {X: empty, D: api.Ill}}, api.Deco{X: empty, D: api.Ill}},
	} {
		p, _, e := infix.Parse(row.text, row.names)
		g, err := expr.New(p)
		if e != api.OK || err != api.OK {
			t.Fatalf("%q: %d, %d", row.text, e, err)
		}
		if y, e := g.EvalDeco(row.parts); e != api.OK || y != row.want {
			t.Errorf("%q over %v is %v, %d; want %v", row.text, row.parts, y, e, row.want)
		}
	}
}
