package pare_test

import (
	"fmt"
	"go/ast"
	"go/parser"
	"math"
	"slices"
	"strings"
	"testing"

	"verge/api"
	"verge/expr"
	"verge/pare"
	"verge/rel"
	"verge/rev"
)

// What is asked, by the document's words. What an operation's reverse makes of intervals, and what a
// program makes of a box, is held against reals where it is built.

const (
	greatest = math.MaxFloat64
	least    = math.SmallestNonzeroFloat64
)

var (
	inf    = math.Inf(1)
	nan    = math.NaN()
	signed = math.Copysign(0, -1)
	empty  = api.Interval{Lo: inf, Hi: -inf}
	entire = api.Interval{Lo: -inf, Hi: inf}
)

type box = []api.Interval

func iv(lo, hi float64) api.Interval { return api.Interval{Lo: lo, Hi: hi} }

func one(x float64) api.Interval { return iv(x, x) }

// same compares ends bit by bit.
func same(x, y api.Interval) bool {
	return math.Float64bits(x.Lo) == math.Float64bits(y.Lo) && math.Float64bits(x.Hi) == math.Float64bits(y.Hi)
}

func sameBox(a, b box) bool { return slices.EqualFunc(a, b, same) }

func sameProgram(p, q api.Program) bool {
	return p.Vars == q.Vars && sameBox(p.Consts, q.Consts) && slices.Equal(p.Code, q.Code)
}

func sameGoal(g, h api.Goal) bool { return sameProgram(g.P, h.P) && same(g.C, h.C) }

// read tells an interval as the document reads it.
func read(x api.Interval) api.Interval {
	if math.IsNaN(x.Lo) || math.IsNaN(x.Hi) || x.Lo > x.Hi || x.Lo == inf || x.Hi == -inf {
		return empty
	}
	return iv(x.Lo+0, x.Hi+0)
}

func readBox(b box) box {
	out := box{}
	for _, x := range b {
		out = append(out, read(x))
	}
	return out
}

// right tells whether an interval is valid as it stands.
func right(x api.Interval) bool { return same(x, read(x)) }

// inside tells whether an interval, as it is read, is a subset of another one.
func inside(x, y api.Interval) bool {
	x, y = read(x), read(y)
	return x == empty || x.Lo >= y.Lo && x.Hi <= y.Hi
}

func insideBox(a, b box) bool { return slices.EqualFunc(a, b, inside) }

func empties(n int) box {
	out := box{}
	for range n {
		out = append(out, empty)
	}
	return out
}

// uses tells which of A, B, C and N an operation uses, as package api has it.
func uses(op int) string {
	return []string{"N", "A", "A", "AB", "AB", "AB", "AB", "A", "A", "A", "ABC", "AN", "A", "AB", "AB", "A", "A", "A", "A", "A", "A"}[op-api.OpConst]
}

// ops are all operations.
func ops() []int {
	var out []int
	for op := api.OpConst; op <= api.OpRoundAway; op++ {
		out = append(out, op)
	}
	return out
}

// field tells where a line keeps A, B, C or N.
func field(in *api.Ins, name rune) *int {
	return [...]*int{&in.A, &in.B, &in.C, &in.N}[strings.IndexRune("ABCN", name)]
}

// shown tells a goal, of a long program its beginning.
func shown(g api.Goal) string {
	p := g.P
	return fmt.Sprintf("vars %d, %d constants %v, %d lines %v in %v", p.Vars, len(p.Consts), p.Consts[:min(3, len(p.Consts))], len(p.Code), p.Code[:min(8, len(p.Code))], g.C)
}

func shownAll(goals []api.Goal) string {
	var out []string
	for _, g := range goals[:min(4, len(goals))] {
		out = append(out, shown(g))
	}
	return fmt.Sprintf("%d goals: %s", len(goals), strings.Join(out, "; "))
}

// rows are those of P19.2's table, as the chapter writes them: what A becomes, then B, then C.
func rows(op int) []string {
	return map[int][]string{
		api.OpConst:     {},
		api.OpId:        {"Intersect(u, y)"},
		api.OpNeg:       {"NegRev(y, u)"},
		api.OpAdd:       {"AddRev(v, y, u)", "AddRev(u, y, v)"},
		api.OpSub:       {"SubRev1(v, y, u)", "SubRev2(u, y, v)"},
		api.OpMul:       {"MulRev(v, y, u)", "MulRev(u, y, v)"},
		api.OpDiv:       {"DivRev1(v, y, u)", "DivRev2(u, y, v)"},
		api.OpFMA:       {"FMARev(v, w, y, u)", "FMARev(u, w, y, v)", "FMARevAdd(u, v, y, w)"},
		api.OpMin:       {"MinRev(v, y, u)", "MinRev(u, y, v)"},
		api.OpMax:       {"MaxRev(v, y, u)", "MaxRev(u, y, v)"},
		api.OpPown:      {"PownRev(N, y, u)"},
		api.OpRecip:     {"RecipRev(y, u)"},
		api.OpSqr:       {"SqrRev(y, u)"},
		api.OpSqrt:      {"SqrtRev(y, u)"},
		api.OpAbs:       {"AbsRev(y, u)"},
		api.OpSign:      {"SignRev(y, u)"},
		api.OpFloor:     {"FloorRev(y, u)"},
		api.OpCeil:      {"CeilRev(y, u)"},
		api.OpTrunc:     {"TruncRev(y, u)"},
		api.OpRoundEven: {"RoundEvenRev(y, u)"},
		api.OpRoundAway: {"RoundAwayRev(y, u)"},
	}[op]
}

// worked tells what a row's call makes of the intervals that it names.
func worked(row string, n int, named map[string]api.Interval) api.Interval {
	tree, err := parser.ParseExpr(row)
	if err != nil {
		panic(row)
	}
	call := tree.(*ast.CallExpr)
	var args box
	for _, arg := range call.Args {
		if name := arg.(*ast.Ident).Name; name != "N" {
			x, known := named[name]
			if !known {
				panic(row)
			}
			args = append(args, x)
		}
	}
	return called(call.Fun.(*ast.Ident).Name, n, args)
}

func called(name string, n int, args box) api.Interval {
	switch name {
	case "PownRev":
		return rev.PownRev(n, args[0], args[1])
	case "FMARev":
		return rev.FMARev(args[0], args[1], args[2], args[3])
	case "FMARevAdd":
		return rev.FMARevAdd(args[0], args[1], args[2], args[3])
	}
	if len(args) == 3 {
		return map[string]func(o, c, x api.Interval) api.Interval{
			"AddRev": rev.AddRev, "SubRev1": rev.SubRev1, "SubRev2": rev.SubRev2, "MulRev": rev.MulRev, "DivRev1": rev.DivRev1,
			"DivRev2": rev.DivRev2, "MinRev": rev.MinRev, "MaxRev": rev.MaxRev}[name](args[0], args[1], args[2])
	}
	return map[string]func(c, x api.Interval) api.Interval{
		"Intersect": rel.Intersect, "NegRev": rev.NegRev, "RecipRev": rev.RecipRev, "SqrRev": rev.SqrRev, "SqrtRev": rev.SqrtRev, "AbsRev": rev.AbsRev,
		"SignRev": rev.SignRev, "FloorRev": rev.FloorRev, "CeilRev": rev.CeilRev, "TruncRev": rev.TruncRev,
		"RoundEvenRev": rev.RoundEvenRev, "RoundAwayRev": rev.RoundAwayRev}[name](args[0], args[1])
}

// wanted tells what is asked of Contract (P19.2), of a goal with whose program nothing is wrong, and a
// box that is long enough.
func wanted(t *testing.T, g api.Goal, b box) box {
	t.Helper()
	engine, e := expr.New(g.P)
	if e != api.OK {
		t.Fatalf("%s: %d", shown(g), e)
	}
	lines, _ := engine.Trace(b)
	values := append(readBox(b), lines...)
	if slices.Contains(values, empty) {
		return empties(len(b))
	}
	values[len(values)-1] = rel.Intersect(values[len(values)-1], read(g.C))
	for at := len(g.P.Code) - 1; at >= 0; at-- {
		in := g.P.Code[at]
		for i, row := range rows(in.Op) {
			named := map[string]api.Interval{"y": values[g.P.Vars+at]}
			for j, name := range strings.TrimSuffix(uses(in.Op), "N") {
				named["uvw"[j:j+1]] = values[*field(&in, name)]
			}
			values[*field(&in, rune("ABC"[i]))] = worked(row, in.N, named)
		}
	}
	if slices.Contains(values, empty) {
		return empties(len(b))
	}
	return values[:len(b)]
}

// wantedOfFix: P19.3.
func wantedOfFix(t *testing.T, goals []api.Goal, b box, rounds int) (left box, made int) {
	t.Helper()
	left = readBox(b)
	if slices.Contains(left, empty) {
		return empties(len(b)), 0
	}
	for made < rounds {
		ahead := left
		for _, g := range goals {
			left = wanted(t, g, left)
		}
		made++
		if sameBox(ahead, left) || slices.Contains(left, empty) {
			break
		}
	}
	return left, made
}

// leaves asks Contract.
func leaves(t *testing.T, g api.Goal, b box, left ...api.Interval) {
	t.Helper()
	y, e := pare.Contract(g, b)
	if e != api.OK || !sameBox(y, left) {
		t.Errorf("Contract(%s; %v) = %v, %d; want %v", shown(g), b, y, e, left)
	}
}

// leavesNothing asks Contract, where each part of the answer is Empty.
func leavesNothing(t *testing.T, g api.Goal, b box) {
	t.Helper()
	leaves(t, g, b, empties(len(b))...)
}

// fixes asks Fix.
func fixes(t *testing.T, goals []api.Goal, b box, rounds, made int, left ...api.Interval) {
	t.Helper()
	y, n, e := pare.Fix(goals, b, rounds)
	if e != api.OK || n != made || !sameBox(y, left) {
		t.Errorf("Fix(%s; %v, %d) = %v, %d, %d; want %v, %d", shownAll(goals), b, rounds, y, n, e, left, made)
	}
}

// asked asks Contract by the words.
func asked(t *testing.T, g api.Goal, b box) box {
	t.Helper()
	w := wanted(t, g, b)
	leaves(t, g, b, w...)
	lies(t, g, b, w)
	return w
}

// askedOfFix asks Fix by the words.
func askedOfFix(t *testing.T, goals []api.Goal, b box, rounds int) (left box, made int) {
	t.Helper()
	left, made = wantedOfFix(t, goals, b, rounds)
	fixes(t, goals, b, rounds, made, left...)
	lies(t, goals[0], b, left)
	return left, made
}

// lies holds an answer against the box of which it is left.
func lies(t *testing.T, g api.Goal, b, left box) {
	t.Helper()
	void := 0
	for _, x := range left {
		if !right(x) {
			t.Errorf("%s; %v: %v is not valid", shown(g), b, x)
		}
		if x == empty {
			void++
		}
	}
	if void != 0 && void != len(left) || !insideBox(left, b) {
		t.Errorf("%s; %v: %v is left", shown(g), b, left)
	}
}
