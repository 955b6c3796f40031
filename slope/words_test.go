package slope_test

import (
	"fmt"
	"go/ast"
	"go/parser"
	"math"
	"slices"
	"strings"
	"testing"

	"verge/api"
	"verge/deco"
	"verge/expr"
	"verge/ival"
	"verge/meas"
	"verge/power"
	"verge/rel"
	"verge/rev"
	"verge/slope"
)

// What is asked, by the document's words. What one operation makes of intervals, and what a program
// makes of a box, is held against reals where it is built.

const (
	greatest = math.MaxFloat64
	least    = math.SmallestNonzeroFloat64
)

var (
	inf    = math.Inf(1)
	nan    = math.NaN()
	signed = math.Copysign(0, -1)
	empty  = api.Interval{Lo: inf, Hi: -inf}
	entire = api.Interval{Lo: -inf, Hi: inf}
)

type box = []api.Interval

func iv(lo, hi float64) api.Interval { return api.Interval{Lo: lo, Hi: hi} }

func one(x float64) api.Interval { return iv(x, x) }

// same compares ends bit by bit.
func same(x, y api.Interval) bool {
	return math.Float64bits(x.Lo) == math.Float64bits(y.Lo) && math.Float64bits(x.Hi) == math.Float64bits(y.Hi)
}

func sameBox(a, b box) bool { return slices.EqualFunc(a, b, same) }

func sameProgram(p, q api.Program) bool {
	return p.Vars == q.Vars && sameBox(p.Consts, q.Consts) && slices.Equal(p.Code, q.Code)
}

// read tells an interval as the document reads it.
func read(x api.Interval) api.Interval {
	if math.IsNaN(x.Lo) || math.IsNaN(x.Hi) || x.Lo > x.Hi || x.Lo == inf || x.Hi == -inf {
		return empty
	}
	return iv(x.Lo+0, x.Hi+0)
}

// right tells whether an interval is valid as it stands.
func right(x api.Interval) bool { return same(x, read(x)) }

// uses tells which of A, B, C and N an operation uses, as package api has it.
func uses(op int) string {
	return []string{"N", "A", "A", "AB", "AB", "AB", "AB", "A", "A", "A", "ABC", "AN", "A", "AB", "AB", "A", "A", "A", "A", "A", "A"}[op-api.OpConst]
}

// ops are all operations.
func ops() []int {
	var out []int
	for op := api.OpConst; op <= api.OpRoundAway; op++ {
		out = append(out, op)
	}
	return out
}

func isStep(op int) bool { return op >= api.OpSign }

// field tells where a line keeps A, B, C or N.
func field(in *api.Ins, name rune) *int {
	return [...]*int{&in.A, &in.B, &in.C, &in.N}[strings.IndexRune("ABCN", name)]
}

// shown tells a program, of a long one its beginning.
func shown(p api.Program) string {
	return fmt.Sprintf("vars %d, %d constants %v, %d lines %v", p.Vars, len(p.Consts), p.Consts[:min(3, len(p.Consts))], len(p.Code), p.Code[:min(8, len(p.Code))])
}

// row tells one of those of P18.1 as the chapter writes them, but for those that hang on how intervals lie.
// [n], [m] and [0] are N, M and O here, Pown(U, n - 1) and Pown(U, m - 1) are R, Pown(U, m) is P.
func row(in api.Ins) string {
	switch {
	case in.Op == api.OpPown && in.N == 0:
		return "Mul(O, S)"
	case in.Op == api.OpPown && in.N > 0:
		return "Mul(Mul(N, R), S)"
	case in.Op == api.OpPown:
		return "Mul(Neg(Div(Mul(M, R), Mul(P, P))), S)"
	}
	return map[int]string{
		api.OpConst: "O",
		api.OpId:    "S",
		api.OpNeg:   "Neg(S)",
		api.OpAdd:   "Add(S, S2)",
		api.OpSub:   "Sub(S, S2)",
		api.OpMul:   "Add(Mul(U, S2), Mul(U2, S))",
		api.OpFMA:   "Add(Add(Mul(U, S2), Mul(U2, S)), S3)",
		api.OpDiv:   "Div(Sub(S, Mul(W, S2)), U2)",
		api.OpSqr:   "Mul(Add(U, U), S)",
		api.OpRecip: "Mul(Neg(Recip(Mul(U, U))), S)",
		api.OpSqrt:  "Mul(Recip(Add(W, W)), S)",
	}[in.Op]
}

// worked tells what a row of calls makes of the intervals that it names.
func worked(row string, named map[string]api.Interval) api.Interval {
	tree, err := parser.ParseExpr(row)
	if err != nil {
		panic(row)
	}
	return walked(tree, named)
}

func walked(tree ast.Expr, named map[string]api.Interval) api.Interval {
	if name, ok := tree.(*ast.Ident); ok {
		x, known := named[name.Name]
		if !known {
			panic(name.Name)
		}
		return x
	}
	call := tree.(*ast.CallExpr)
	var args box
	for _, arg := range call.Args {
		args = append(args, walked(arg, named))
	}
	switch call.Fun.(*ast.Ident).Name {
	case "Neg":
		return ival.Neg(args[0])
	case "Recip":
		return ival.Recip(args[0])
	case "Add":
		return ival.Add(args[0], args[1])
	case "Sub":
		return ival.Sub(args[0], args[1])
	case "Mul":
		return ival.Mul(args[0], args[1])
	case "Div":
		return ival.Div(args[0], args[1])
	}
	panic(row)
}

// parted tells a line's slope for a variable: U, U2, U3 are the values of its operands, W its own, S, S2,
// S3 its operands' slopes.
func parted(in api.Ins, u, s box, w api.Interval) api.Interval {
	switch in.Op {
	case api.OpMin:
		if !(u[0].Hi > u[1].Lo) {
			return s[0]
		} else if !(u[1].Hi > u[0].Lo) {
			return s[1]
		}
		return rel.Hull(s[0], s[1])
	case api.OpMax:
		if !(u[0].Lo < u[1].Hi) {
			return s[0]
		} else if !(u[1].Lo < u[0].Hi) {
			return s[1]
		}
		return rel.Hull(s[0], s[1])
	case api.OpAbs:
		if !(u[0].Lo < 0) {
			return ival.Mul(one(1), s[0])
		} else if !(u[0].Hi > 0) {
			return ival.Mul(one(-1), s[0])
		}
		return ival.Mul(iv(-1, 1), s[0])
	}
	if isStep(in.Op) && w.Lo != w.Hi {
		return ival.Mul(entire, s[0])
	}
	if isStep(in.Op) || in.Op == api.OpSqrt && w == one(0) {
		return ival.Mul(one(0), s[0])
	}
	named := map[string]api.Interval{"O": one(0), "W": w}
	for i := range u {
		tail := []string{"", "2", "3"}[i]
		named["U"+tail], named["S"+tail] = u[i], s[i]
	}
	if in.Op == api.OpPown {
		m := max(in.N, -in.N)
		named["N"], named["M"] = one(float64(in.N)), one(float64(m))
		named["R"], named["P"] = power.Pown(u[0], m-1), power.Pown(u[0], m)
	}
	return worked(row(in), named)
}

// wanted is what is asked of the three calls, of a program with which nothing is wrong, and a box that is
// long enough.
type wanted struct {
	value  api.Interval
	slopes box
	mean   api.Interval
	newton box // by parts
}

// want: P18.1 to P18.3.
func want(t *testing.T, p api.Program, b box) wanted {
	t.Helper()
	g, e := expr.New(p)
	if e != api.OK {
		t.Fatalf("%s: %d", shown(p), e)
	}
	y, _ := g.Eval(b)
	lines, _ := g.Trace(b)
	out := wanted{value: y}
	for v := range p.Vars {
		if y == empty {
			out.slopes = append(out.slopes, empty)
		} else {
			out.slopes = append(out.slopes, lastSlope(p, b, lines, v))
		}
	}
	var middle []api.Deco
	for _, x := range b {
		middle = append(middle, deco.New(one(meas.Mid(x))))
	}
	f, _ := g.EvalDeco(middle)
	out.mean = meanOf(y, f, b, out.slopes)
	for part := range b {
		out.newton = append(out.newton, newtonOf(y, f, b, out.slopes, part))
	}
	return out
}

// lastSlope tells the last line's slope for a variable.
func lastSlope(p api.Program, b, lines box, v int) api.Interval {
	var values, slopes box
	for i, x := range b {
		values, slopes = append(values, read(x)), append(slopes, one(0))
		if i == v {
			slopes[i] = one(1)
		}
	}
	for at, in := range p.Code {
		var u, s box
		for _, name := range uses(in.Op) {
			if name != 'N' {
				u, s = append(u, values[*field(&in, name)]), append(s, slopes[*field(&in, name)])
			}
		}
		slopes = append(slopes, parted(in, u, s, lines[at]))
		values = append(values, lines[at])
	}
	return slopes[len(slopes)-1]
}

func meanOf(e api.Interval, f api.Deco, b, slopes box) api.Interval {
	if e == empty {
		return empty
	}
	if f.D == api.Trv {
		return e
	}
	m := f.X
	for i := range b {
		m = ival.Add(m, ival.Mul(slopes[i], ival.Sub(read(b[i]), one(meas.Mid(b[i])))))
	}
	return rel.Intersect(e, m)
}

func newtonOf(e api.Interval, f api.Deco, b, slopes box, part int) api.Interval {
	if e == empty || e.Lo > 0 || e.Hi < 0 {
		return empty
	}
	q := read(b[part])
	if f.D == api.Trv {
		return q
	}
	m := f.X
	for i := range b {
		if i != part {
			m = ival.Add(m, ival.Mul(slopes[i], ival.Sub(read(b[i]), one(meas.Mid(b[i])))))
		}
	}
	c := ival.Neg(m)
	k := one(meas.Mid(q))
	t := rev.MulRev(slopes[part], c, ival.Sub(q, k))
	return rev.SubRev1(k, t, q)
}

// slopesAre asks Slopes.
func slopesAre(t *testing.T, p api.Program, b box, value api.Interval, slopes ...api.Interval) {
	t.Helper()
	y, s, e := slope.Slopes(p, b)
	if e != api.OK || !same(y, value) || !sameBox(s, slopes) {
		t.Errorf("Slopes(%s; %v) = %v, %v, %d; want %v, %v", shown(p), b, y, s, e, value, slopes)
	}
}

func meanIs(t *testing.T, p api.Program, b box, mean api.Interval) {
	t.Helper()
	if y, e := slope.MeanValue(p, b); e != api.OK || !same(y, mean) {
		t.Errorf("MeanValue(%s; %v) = %v, %d; want %v", shown(p), b, y, e, mean)
	}
}

func newtonIs(t *testing.T, p api.Program, b box, part int, left api.Interval) {
	t.Helper()
	if y, e := slope.Newton(p, b, part); e != api.OK || !same(y, left) {
		t.Errorf("Newton(%s; %v, %d) = %v, %d; want %v", shown(p), b, part, y, e, left)
	}
}

// asked asks all three by the words.
func asked(t *testing.T, p api.Program, b box) wanted {
	t.Helper()
	w := want(t, p, b)
	slopesAre(t, p, b, w.value, w.slopes...)
	meanIs(t, p, b, w.mean)
	for part, left := range w.newton {
		newtonIs(t, p, b, part, left)
	}
	for _, x := range append(box{w.value, w.mean}, append(w.slopes, w.newton...)...) {
		if !right(x) {
			t.Errorf("%s; %v: %v is not valid", shown(p), b, x)
		}
	}
	return w
}
