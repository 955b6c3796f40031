package sieve_test

import (
	"fmt"
	"math"
	"slices"
	"strings"
	"testing"

	"verge/api"
	"verge/deco"
	"verge/expr"
	"verge/meas"
	"verge/pare"
	"verge/rel"
	"verge/sieve"
)

// What is asked, by the document's words. What the layers below answer is held against reals where it is
// built.

const (
	greatest = math.MaxFloat64
	least    = math.SmallestNonzeroFloat64
)

var (
	inf    = math.Inf(1)
	nan    = math.NaN()
	signed = math.Copysign(0, -1)
	empty  = api.Interval{Lo: inf, Hi: -inf}
	entire = api.Interval{Lo: -inf, Hi: inf}
)

type box = []api.Interval

func iv(lo, hi float64) api.Interval { return api.Interval{Lo: lo, Hi: hi} }

func one(x float64) api.Interval { return iv(x, x) }

// same compares ends bit by bit.
func same(x, y api.Interval) bool {
	return math.Float64bits(x.Lo) == math.Float64bits(y.Lo) && math.Float64bits(x.Hi) == math.Float64bits(y.Hi)
}

func sameBox(a, b box) bool { return slices.EqualFunc(a, b, same) }

func sameBoxes(a, b []box) bool { return slices.EqualFunc(a, b, sameBox) }

func samePaving(p, q api.Paving) bool {
	return sameBoxes(p.Inner, q.Inner) && sameBoxes(p.Edge, q.Edge) && sameBoxes(p.Left, q.Left) && p.Boxes == q.Boxes && p.Rounds == q.Rounds
}

func sameProgram(p, q api.Program) bool {
	return p.Vars == q.Vars && sameBox(p.Consts, q.Consts) && slices.Equal(p.Code, q.Code)
}

func sameGoal(g, h api.Goal) bool { return sameProgram(g.P, h.P) && same(g.C, h.C) }

// read tells an interval as the document reads it.
func read(x api.Interval) api.Interval {
	if math.IsNaN(x.Lo) || math.IsNaN(x.Hi) || x.Lo > x.Hi || x.Lo == inf || x.Hi == -inf {
		return empty
	}
	return iv(x.Lo+0, x.Hi+0)
}

func readBox(b box) box {
	out := box{}
	for _, x := range b {
		out = append(out, read(x))
	}
	return out
}

// right tells whether an interval is valid as it stands.
func right(x api.Interval) bool { return same(x, read(x)) }

// inside tells whether an interval, as it is read, is a subset of another one.
func inside(x, y api.Interval) bool {
	x, y = read(x), read(y)
	return x == empty || x.Lo >= y.Lo && x.Hi <= y.Hi
}

func insideBox(a, b box) bool { return slices.EqualFunc(a, b, inside) }

// uses tells which of A, B, C and N an operation uses, as package api has it.
func uses(op int) string {
	return []string{"N", "A", "A", "AB", "AB", "AB", "AB", "A", "A", "A", "ABC", "AN", "A", "AB", "AB", "A", "A", "A", "A", "A", "A"}[op-api.OpConst]
}

// ops are all operations.
func ops() []int {
	var out []int
	for op := api.OpConst; op <= api.OpRoundAway; op++ {
		out = append(out, op)
	}
	return out
}

// field tells where a line keeps A, B, C or N.
func field(in *api.Ins, name rune) *int {
	return [...]*int{&in.A, &in.B, &in.C, &in.N}[strings.IndexRune("ABCN", name)]
}

// shown tells goals, of long ones their beginning.
func shown(goals []api.Goal) string {
	var out []string
	for _, g := range goals[:min(4, len(goals))] {
		p := g.P
		out = append(out, fmt.Sprintf("vars %d, %d constants %v, %d lines %v in %v", p.Vars, len(p.Consts), p.Consts[:min(3, len(p.Consts))], len(p.Code), p.Code[:min(8, len(p.Code))], g.C))
	}
	return fmt.Sprintf("%d goals: %s", len(goals), strings.Join(out, "; "))
}

// shownPaving tells a paving, of long lists the beginning.
func shownPaving(p api.Paving) string {
	var out []string
	for i, l := range [][]box{p.Inner, p.Edge, p.Left} {
		out = append(out, fmt.Sprintf("%d %s %v", len(l), []string{"inner", "edge", "left"}[i], l[:min(4, len(l))]))
	}
	return fmt.Sprintf("%s; %d boxes, %d rounds", strings.Join(out, ", "), p.Boxes, p.Rounds)
}

// given is what a range gives at one time.
type given struct {
	kind int
	b    box
}

func sameGiven(x, y given) bool { return x.kind == y.kind && sameBox(x.b, y.b) }

// lookedAt tells what comes of a box (P20.3): a box that is given, with its kind, or else boxes that wait.
func lookedAt(goals []api.Goal, b box, width float64) (found []given, waits []box) {
	c, _, _ := pare.Fix(goals, b, 3)
	if slices.Contains(c, empty) {
		return nil, nil
	}
	inner := true
	for _, g := range goals {
		var parts []api.Deco
		for _, x := range c {
			parts = append(parts, deco.New(x))
		}
		engine, _ := expr.New(g.P)
		y, _ := engine.EvalDeco(parts)
		inner = inner && slices.Contains([]int{api.Def, api.Dac, api.Com}, y.D) && inside(y.X, g.C)
	}
	if inner {
		return []given{{sieve.Inner, c}}, nil
	}
	var wide []int
	for i, x := range c {
		if _, _, ok := rel.Bisect(x); ok && meas.Wid(x) > width {
			wide = append(wide, i)
		}
	}
	if len(wide) == 0 {
		return []given{{sieve.Edge, c}}, nil
	}
	slices.SortStableFunc(wide, func(i, j int) int {
		if meas.Wid(c[i]) > meas.Wid(c[j]) {
			return -1
		} else if meas.Wid(c[i]) < meas.Wid(c[j]) {
			return 1
		}
		return 0
	})
	first, second := slices.Clone(c), slices.Clone(c)
	first[wide[0]], second[wide[0]], _ = rel.Bisect(c[wide[0]])
	return nil, []box{first, second}
}

// wanted tells what is asked (P20.2, P20.4, P20.5) of goals, a box and limits with which nothing is wrong:
// what a range gives, how many boxes are looked at, how many rounds are made.
func wanted(goals []api.Goal, b box, l api.Limits) (found []given, boxes, rounds int) {
	waits := []box{readBox(b)}
	if slices.Contains(waits[0], empty) {
		waits = nil
	}
	for len(waits) != 0 && rounds != l.Rounds && boxes+len(waits) <= l.Boxes {
		var then []box
		for _, x := range waits {
			come, more := lookedAt(goals, x, l.Width)
			found, then = append(found, come...), append(then, more...)
			boxes++
		}
		waits = then
		rounds++
	}
	for _, x := range waits {
		found = append(found, given{sieve.Left, x})
	}
	return found, boxes, rounds
}

// gathered tells a paving of what a range gives.
func gathered(found []given, boxes, rounds int) api.Paving {
	p := api.Paving{Boxes: boxes, Rounds: rounds}
	for _, g := range found {
		to := map[int]*[]box{sieve.Inner: &p.Inner, sieve.Edge: &p.Edge, sieve.Left: &p.Left}[g.kind]
		*to = append(*to, g.b)
	}
	return p
}

// ranged tells all that a range over Walk's answer gives.
func ranged(t *testing.T, goals []api.Goal, b box, l api.Limits) []given {
	t.Helper()
	walk, e := sieve.Walk(goals, b, l)
	if e != api.OK || walk == nil {
		t.Fatalf("Walk(%s; %v, %v): %d", shown(goals), b, l, e)
	}
	var out []given
	for kind, x := range walk {
		out = append(out, given{kind, x})
	}
	return out
}

// paved tells what Pave answers.
func paved(t *testing.T, goals []api.Goal, b box, l api.Limits) api.Paving {
	t.Helper()
	p, e := sieve.Pave(goals, b, l)
	if e != api.OK {
		t.Fatalf("Pave(%s; %v, %v): %d", shown(goals), b, l, e)
	}
	return p
}

// answers asks Pave.
func answers(t *testing.T, goals []api.Goal, b box, l api.Limits, want api.Paving) {
	t.Helper()
	p := paved(t, goals, b, l)
	if !samePaving(p, want) {
		t.Errorf("Pave(%s; %v, %v) = %s; want %s", shown(goals), b, l, shownPaving(p), shownPaving(want))
	}
}

// gives asks Walk.
func gives(t *testing.T, goals []api.Goal, b box, l api.Limits, want []given) {
	t.Helper()
	if got := ranged(t, goals, b, l); !slices.EqualFunc(got, want, sameGiven) {
		at := 0
		for at < min(len(got), len(want)) && sameGiven(got[at], want[at]) {
			at++
		}
		t.Errorf("Walk(%s; %v, %v) gives %d boxes, %v from number %d on; want %d, %v", shown(goals), b, l,
			len(got), got[at:min(at+3, len(got))], at, len(want), want[at:min(at+3, len(want))])
	}
}

// asked asks both calls by the words.
func asked(t *testing.T, goals []api.Goal, b box, l api.Limits) api.Paving {
	t.Helper()
	found, boxes, rounds := wanted(goals, b, l)
	p := gathered(found, boxes, rounds)
	answers(t, goals, b, l, p)
	gives(t, goals, b, l, found)
	return p
}
