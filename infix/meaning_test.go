package infix_test

import (
	"math"
	"math/big"
	"strings"
	"testing"

	"verge/api"
	"verge/deco"
	"verge/expr"
	"verge/infix"
)

// P17.4 and W3

func ins(op int, operands ...int) api.Ins {
	in := api.Ins{Op: op}
	for i, x := range operands {
		*fieldOf(&in, rune(uses(op)[i])) = x
	}
	return in
}

// Over the variables x, y, z, which are 0, 1, 2; the first line is 3.
func TestLinesWrittenOut(t *testing.T) {
	one, two, three := iv(1, 1), iv(2, 2), iv(3, 3)
	for _, row := range []struct {
		text   string
		consts box
		code   []api.Ins
	}{
		{"x+y+z", nil, []api.Ins{ins(api.OpAdd, 0, 1), ins(api.OpAdd, 3, 2)}},
		{"x-y-z", nil, []api.Ins{ins(api.OpSub, 0, 1), ins(api.OpSub, 3, 2)}},
		{"x-y+z", nil, []api.Ins{ins(api.OpSub, 0, 1), ins(api.OpAdd, 3, 2)}},
		{"x-(y-z)", nil, []api.Ins{ins(api.OpSub, 1, 2), ins(api.OpSub, 0, 3)}},
		{"x/y/z", nil, []api.Ins{ins(api.OpDiv, 0, 1), ins(api.OpDiv, 3, 2)}},
		{"x/y*z", nil, []api.Ins{ins(api.OpDiv, 0, 1), ins(api.OpMul, 3, 2)}},
		{"x*y/z", nil, []api.Ins{ins(api.OpMul, 0, 1), ins(api.OpDiv, 3, 2)}},
		{"x/(y*z)", nil, []api.Ins{ins(api.OpMul, 1, 2), ins(api.OpDiv, 0, 3)}},
		{"x+y*z", nil, []api.Ins{ins(api.OpMul, 1, 2), ins(api.OpAdd, 0, 3)}},
		{"x*y+z", nil, []api.Ins{ins(api.OpMul, 0, 1), ins(api.OpAdd, 3, 2)}},
		{"x*y-z*x", nil, []api.Ins{ins(api.OpMul, 0, 1), ins(api.OpMul, 2, 0), ins(api.OpSub, 3, 4)}},
		{"(x+y)*z", nil, []api.Ins{ins(api.OpAdd, 0, 1), ins(api.OpMul, 3, 2)}},
		{"x*(y+z)", nil, []api.Ins{ins(api.OpAdd, 1, 2), ins(api.OpMul, 0, 3)}},
		{"x-y/z*x+y", nil, []api.Ins{ins(api.OpDiv, 1, 2), ins(api.OpMul, 3, 0), ins(api.OpSub, 0, 4), ins(api.OpAdd, 5, 1)}},
		{"-x", nil, []api.Ins{ins(api.OpNeg, 0)}},
		{"--x", nil, []api.Ins{ins(api.OpNeg, 0), ins(api.OpNeg, 3)}},
		{"-x^2", nil, []api.Ins{ins(api.OpPown, 0, 2), ins(api.OpNeg, 3)}},
		{"(-x)^2", nil, []api.Ins{ins(api.OpNeg, 0), ins(api.OpPown, 3, 2)}},
		{"--x^2", nil, []api.Ins{ins(api.OpPown, 0, 2), ins(api.OpNeg, 3), ins(api.OpNeg, 4)}},
		{"-x*y", nil, []api.Ins{ins(api.OpNeg, 0), ins(api.OpMul, 3, 1)}},
		{"x*-y", nil, []api.Ins{ins(api.OpNeg, 1), ins(api.OpMul, 0, 3)}},
		{"-x*-y", nil, []api.Ins{ins(api.OpNeg, 0), ins(api.OpNeg, 1), ins(api.OpMul, 3, 4)}},
		{"-x-y", nil, []api.Ins{ins(api.OpNeg, 0), ins(api.OpSub, 3, 1)}},
		{"x--y", nil, []api.Ins{ins(api.OpNeg, 1), ins(api.OpSub, 0, 3)}},
		{"x+-y*z", nil, []api.Ins{ins(api.OpNeg, 1), ins(api.OpMul, 3, 2), ins(api.OpAdd, 0, 4)}},
		{"-x^2*y^-3", nil, []api.Ins{ins(api.OpPown, 0, 2), ins(api.OpNeg, 3), ins(api.OpPown, 1, -3), ins(api.OpMul, 4, 5)}},
		{"-(x-y)", nil, []api.Ins{ins(api.OpSub, 0, 1), ins(api.OpNeg, 3)}},
		{"-(-x)", nil, []api.Ins{ins(api.OpNeg, 0), ins(api.OpNeg, 3)}},
		{"-1", box{one}, []api.Ins{ins(api.OpConst, 0), ins(api.OpNeg, 3)}},
		{"1^2", box{one}, []api.Ins{ins(api.OpConst, 0), ins(api.OpPown, 3, 2)}},
		{"[1]^2", box{one}, []api.Ins{ins(api.OpConst, 0), ins(api.OpPown, 3, 2)}},
		{"x^0", nil, []api.Ins{ins(api.OpPown, 0, 0)}},
		{"x^-0", nil, []api.Ins{ins(api.OpPown, 0, 0)}},
		{"x^1", nil, []api.Ins{ins(api.OpPown, 0, 1)}},
		{"(x^2)^3", nil, []api.Ins{ins(api.OpPown, 0, 2), ins(api.OpPown, 3, 3)}},
		{"x^2+y^3", nil, []api.Ins{ins(api.OpPown, 0, 2), ins(api.OpPown, 1, 3), ins(api.OpAdd, 3, 4)}},
		{"x^2-3", box{three}, []api.Ins{ins(api.OpPown, 0, 2), ins(api.OpConst, 0), ins(api.OpSub, 3, 4)}},
		{"pown(x,2)", nil, []api.Ins{ins(api.OpPown, 0, 2)}},
		{"pown(x+y,-2)^3", nil, []api.Ins{ins(api.OpAdd, 0, 1), ins(api.OpPown, 3, -2), ins(api.OpPown, 4, 3)}},
		{"-pown(-x,2)", nil, []api.Ins{ins(api.OpNeg, 0), ins(api.OpPown, 3, 2), ins(api.OpNeg, 4)}},
		{"sqr(x)^2", nil, []api.Ins{ins(api.OpSqr, 0), ins(api.OpPown, 3, 2)}},
		{"min(x,y)", nil, []api.Ins{ins(api.OpMin, 0, 1)}},
		{"max(y,x)", nil, []api.Ins{ins(api.OpMax, 1, 0)}},
		{"min(x+y,y-z)", nil, []api.Ins{ins(api.OpAdd, 0, 1), ins(api.OpSub, 1, 2), ins(api.OpMin, 3, 4)}},
		{"fma(x,y,z)", nil, []api.Ins{ins(api.OpFMA, 0, 1, 2)}},
		{"fma(z,-x,1)", box{one}, []api.Ins{ins(api.OpNeg, 0), ins(api.OpConst, 0), ins(api.OpFMA, 2, 3, 4)}},
		{"fma(1,2,3)", box{one, two, three}, []api.Ins{ins(api.OpConst, 0), ins(api.OpConst, 1), ins(api.OpConst, 2), ins(api.OpFMA, 3, 4, 5)}},
		{"sqrt(abs(x))", nil, []api.Ins{ins(api.OpAbs, 0), ins(api.OpSqrt, 3)}},
		{"1", box{one}, []api.Ins{ins(api.OpConst, 0)}},
		{"(((1)))", box{one}, []api.Ins{ins(api.OpConst, 0)}},
		{"1+1", box{one, one}, []api.Ins{ins(api.OpConst, 0), ins(api.OpConst, 1), ins(api.OpAdd, 3, 4)}},
		{"2*x+1", box{two, one}, []api.Ins{ins(api.OpConst, 0), ins(api.OpMul, 3, 0), ins(api.OpConst, 1), ins(api.OpAdd, 4, 5)}},
		{"x", nil, []api.Ins{ins(api.OpId, 0)}},
		{"z", nil, []api.Ins{ins(api.OpId, 2)}},
		{"((y))", nil, []api.Ins{ins(api.OpId, 1)}},
		{"id(y)", nil, []api.Ins{ins(api.OpId, 1)}},
		{"id(id(y))", nil, []api.Ins{ins(api.OpId, 1), ins(api.OpId, 3)}},
		{"a=x;a", nil, []api.Ins{ins(api.OpId, 0)}},
		{"a=x;b=a;b+a", nil, []api.Ins{ins(api.OpAdd, 0, 0)}},
		{"a=x+y;a", nil, []api.Ins{ins(api.OpAdd, 0, 1)}},
		{"a=x+y;(a)", nil, []api.Ins{ins(api.OpAdd, 0, 1)}},
		{"a=x+y;b=a;b", nil, []api.Ins{ins(api.OpAdd, 0, 1)}},
		{"a=x+y;b=x;a", nil, []api.Ins{ins(api.OpAdd, 0, 1)}},
		{"a=x+y;b=x;b", nil, []api.Ins{ins(api.OpAdd, 0, 1), ins(api.OpId, 0)}},
		{"a=x+y;x", nil, []api.Ins{ins(api.OpAdd, 0, 1), ins(api.OpId, 0)}},
		{"a=x+y;b=x*y;a", nil, []api.Ins{ins(api.OpAdd, 0, 1), ins(api.OpMul, 0, 1), ins(api.OpId, 3)}},
		{"a=x+y;b=x*y;b", nil, []api.Ins{ins(api.OpAdd, 0, 1), ins(api.OpMul, 0, 1)}},
		{"a=x+y;b=x*y;a*b", nil, []api.Ins{ins(api.OpAdd, 0, 1), ins(api.OpMul, 0, 1), ins(api.OpMul, 3, 4)}},
		{"a=1;a", box{one}, []api.Ins{ins(api.OpConst, 0)}},
		{"a=1;a+a", box{one}, []api.Ins{ins(api.OpConst, 0), ins(api.OpAdd, 3, 3)}},
		{"a=1;b=2;a", box{one, two}, []api.Ins{ins(api.OpConst, 0), ins(api.OpConst, 1), ins(api.OpId, 3)}},
		{"a=1;2", box{one, two}, []api.Ins{ins(api.OpConst, 0), ins(api.OpConst, 1)}},
		{"a=1;b=a^2;c=-b;b", box{one}, []api.Ins{ins(api.OpConst, 0), ins(api.OpPown, 3, 2), ins(api.OpNeg, 4), ins(api.OpId, 4)}},
	} {
		want := api.Program{Vars: 3, Consts: row.consts, Code: row.code}
		parses(t, row.text, []string{"x", "y", "z"}, want)
		if p, _, e := parsed(row.text, []string{"x", "y", "z"}); e != api.OK || !sameProgram(p, want) {
			t.Errorf("by the words %q is %s, %d", row.text, shown(p), e)
		}
	}
}

// wordOps are the words' operations, in the order of the words.
func wordOps() []int {
	return []int{api.OpId, api.OpSqr, api.OpSqrt, api.OpRecip, api.OpFMA, api.OpPown, api.OpAbs, api.OpMin, api.OpMax, api.OpSign, api.OpFloor, api.OpCeil, api.OpTrunc, api.OpRoundEven, api.OpRoundAway}
}

// written tells a formula of one operation over x, y and z, for each operation but OpConst, and its line.
func written() map[string]api.Ins {
	out := map[string]api.Ins{"-x": ins(api.OpNeg, 0), "x+y": ins(api.OpAdd, 0, 1), "x-y": ins(api.OpSub, 0, 1), "x*y": ins(api.OpMul, 0, 1), "x/y": ins(api.OpDiv, 0, 1), "x^3": ins(api.OpPown, 0, 3), "x^-3": ins(api.OpPown, 0, -3)}
	for i, word := range wordList() {
		switch op := wordOps()[i]; uses(op) {
		case "A":
			out[word+"(x)"] = ins(op, 0)
		case "AB":
			out[word+"(x,y)"] = ins(op, 0, 1)
		case "ABC":
			out[word+"(x,y,z)"] = ins(op, 0, 1, 2)
		case "AN":
			out[word+"(x,2)"] = ins(op, 0, 2)
		}
	}
	return out
}

// Each operation by its sign or word, and what its program makes of a box: W3's least interval.
func TestEachOperation(t *testing.T) {
	d := dice(17401)
	seen := map[int]bool{api.OpConst: true}
	for text, in := range written() {
		seen[in.Op] = true
		want := api.Program{Vars: 3, Code: []api.Ins{in}}
		parses(t, text, []string{"x", "y", "z"}, want)
		p, _, _ := infix.Parse(text, []string{"x", "y", "z"})
		g, e := expr.New(p)
		if e != api.OK {
			t.Fatalf("%q: %d", text, e)
		}
		for range 200 {
			parts := list(3, d.constant)
			y, _ := g.Eval(parts)
			least, _ := deco.Local(in.Op, in.N, parts[:len(strings.TrimSuffix(uses(in.Op), "N"))]...)
			if parts[0] == empty || parts[1] == empty || parts[2] == empty {
				least = empty
			}
			if !same(y, least) {
				t.Errorf("%q over %x is %x; want %x", text, parts, y, least)
			}
		}
	}
	for _, op := range ops() {
		if !seen[op] {
			t.Errorf("the operation %d is not written", op)
		}
	}
}

// ratio tells what a numeral says, exactly.
func ratio(t *testing.T, numeral string) *big.Rat {
	t.Helper()
	v, ok := new(big.Rat).SetString(numeral)
	if !ok {
		t.Fatalf("%q is no ratio", numeral)
	}
	return v
}

// leastAbout tells the least interval that holds a real from 0 on.
func leastAbout(v *big.Rat) api.Interval {
	near, exact := v.Float64()
	x := iv(near, near)
	switch {
	case exact:
	case near == inf:
		x.Lo = greatest
	case new(big.Rat).SetFloat64(near).Cmp(v) < 0:
		x.Hi = math.Nextafter(near, inf)
	default:
		x.Lo = math.Nextafter(near, -inf)
	}
	return x
}

// A constant is the least interval that holds what a numeral says; a literal's is what lit.Read answers.
func TestConstants(t *testing.T) {
	d := dice(17402)
	for range 3000 {
		numeral := strings.TrimLeft(d.digits(1+d.below(25)), "0") + "0"
		if d.below(2) == 0 {
			numeral += "." + d.digits(d.below(25))
		}
		if d.below(2) == 0 {
			numeral += pick(&d, "e", "E", "e-", "e+") + d.digits(1+d.below(2)) + pick(&d, "", "0")
		}
		want := leastAbout(ratio(t, strings.Replace(numeral, ".e", "e", 1)))
		p, _, e := infix.Parse("x*"+numeral, []string{"x"})
		if e != api.OK || len(p.Consts) != 1 || !same(p.Consts[0], want) {
			t.Errorf("%q is %s, %d; want %x", numeral, shown(p), e, want)
		}
	}
}

func (d *dice) digits(n int) string {
	return string(list(n, func() byte { return byte('0' + d.below(10)) }))
}
