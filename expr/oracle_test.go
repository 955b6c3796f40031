package expr_test

import (
	"fmt"
	"math"
	"slices"
	"strings"
	"testing"

	"verge/api"
	"verge/deco"
	"verge/expr"
)

// What is asked, by the document's words. What one operation makes of intervals is package deco's, and
// held against reals there.

const (
	greatest = math.MaxFloat64
	least    = math.SmallestNonzeroFloat64
)

var (
	inf    = math.Inf(1)
	nan    = math.NaN()
	signed = math.Copysign(0, -1)
	empty  = api.Interval{Lo: inf, Hi: -inf}
	entire = api.Interval{Lo: -inf, Hi: inf}
	nai    = api.Deco{X: empty, D: api.Ill}
)

type box = []api.Interval

func iv(lo, hi float64) api.Interval { return api.Interval{Lo: lo, Hi: hi} }

func dv(lo, hi float64, d int) api.Deco { return api.Deco{X: iv(lo, hi), D: d} }

// same compares ends bit by bit.
func same(x, y api.Interval) bool {
	return math.Float64bits(x.Lo) == math.Float64bits(y.Lo) && math.Float64bits(x.Hi) == math.Float64bits(y.Hi)
}

func sameDeco(x, y api.Deco) bool { return same(x.X, y.X) && x.D == y.D }

func sameBox(a, b box) bool { return slices.EqualFunc(a, b, same) }

func sameProgram(p, q api.Program) bool {
	return p.Vars == q.Vars && sameBox(p.Consts, q.Consts) && slices.Equal(p.Code, q.Code)
}

// read tells an interval as the document reads it.
func read(x api.Interval) api.Interval {
	if math.IsNaN(x.Lo) || math.IsNaN(x.Hi) || x.Lo > x.Hi || x.Lo == inf || x.Hi == -inf {
		return empty
	}
	return iv(x.Lo+0, x.Hi+0)
}

func readBox(b box) box {
	out := box{}
	for _, x := range b {
		out = append(out, read(x))
	}
	return out
}

// right tells whether an interval is valid as it stands.
func right(x api.Interval) bool {
	if x.Lo == inf && x.Hi == -inf {
		return true
	}
	noughts := x.Lo == 0 && math.Signbit(x.Lo) || x.Hi == 0 && math.Signbit(x.Hi)
	return x.Lo <= x.Hi && x.Lo != inf && x.Hi != -inf && !noughts
}

func finite(x api.Interval) bool {
	return x != empty && !math.IsInf(x.Lo, 0) && !math.IsInf(x.Hi, 0)
}

// readDeco tells a decorated interval as the document reads it.
func readDeco(x api.Deco) api.Deco {
	y := iv(x.X.Lo+0, x.X.Hi+0)
	known := x.D == api.Trv || x.D == api.Def || x.D == api.Dac || x.D == api.Com
	switch {
	case !known || !right(y):
		return nai
	case y == empty:
		return api.Deco{X: empty, D: api.Trv}
	case x.D == api.Com && !finite(y):
		return api.Deco{X: y, D: api.Dac}
	}
	return api.Deco{X: y, D: x.D}
}

// rightDeco tells whether a decorated interval is valid as it stands.
func rightDeco(x api.Deco) bool { return right(x.X) && sameDeco(readDeco(x), x) }

// uses tells which of A, B, C and N an operation uses, as package api has it; of none "".
func uses(op int) string {
	if op < api.OpConst || op > api.OpRoundAway {
		return ""
	}
	return []string{"N", "A", "A", "AB", "AB", "AB", "AB", "A", "A", "A", "ABC", "AN", "A", "AB", "AB", "A", "A", "A", "A", "A", "A"}[op-api.OpConst]
}

// ops are all operations.
func ops() []int {
	var out []int
	for op := api.OpConst; op <= api.OpRoundAway; op++ {
		out = append(out, op)
	}
	return out
}

// field tells where a line keeps A, B, C or N.
func field(in *api.Ins, name rune) *int {
	return [...]*int{&in.A, &in.B, &in.C, &in.N}[strings.IndexRune("ABCN", name)]
}

// wrongLine: the fourth point of P16.2.
func wrongLine(p api.Program, at int) api.Errno {
	in := p.Code[at]
	used := uses(in.Op)
	if used == "" {
		return api.ErrOp
	}
	for _, name := range "ABCN" {
		x := *field(&in, name)
		switch {
		case !strings.ContainsRune(used, name):
			if x != 0 {
				return api.ErrOperand
			}
		case name != 'N':
			if x < 0 || x >= p.Vars+at {
				return api.ErrOperand
			}
		case in.Op == api.OpConst:
			if x < 0 || x >= len(p.Consts) {
				return api.ErrOperand
			}
		}
	}
	if in.Op == api.OpPown && (in.N < -1024 || in.N > 1024) {
		return api.ErrPower
	}
	return api.OK
}

// wrongWith: P16.2.
func wrongWith(p api.Program) (line int, e api.Errno) {
	if p.Vars < 0 || p.Vars > 32 {
		return 0, api.ErrVars
	}
	if len(p.Consts) > 256 || slices.ContainsFunc(p.Consts, func(x api.Interval) bool { return !right(x) }) {
		return 0, api.ErrConst
	}
	if len(p.Code) == 0 || len(p.Code) > 1024 {
		return 0, api.ErrCode
	}
	for at := range p.Code {
		if e := wrongLine(p, at); e != api.OK {
			return at, e
		}
	}
	return 0, api.OK
}

// check asks Check, and the calls that refuse what it refuses.
func check(t *testing.T, p api.Program, line int, e api.Errno) {
	t.Helper()
	if got, err := expr.Check(p); got != line || err != e {
		t.Errorf("Check(%s) = %d, %d; want %d, %d", shown(p), got, err, line, e)
	}
	if b, err := expr.Encode(p); err != e || (len(b) == 0) != (e != api.OK) {
		t.Errorf("Encode(%s) = %d bytes, %d; want %d", shown(p), len(b), err, e)
	}
	if g, err := expr.New(p); err != e || (g == nil) != (e != api.OK) {
		t.Errorf("New(%s) = %t, %d; want %d", shown(p), g != nil, err, e)
	}
}

func checkByWords(t *testing.T, p api.Program) {
	t.Helper()
	line, e := wrongWith(p)
	check(t, p, line, e)
}

// shown tells a program, of a long one its beginning.
func shown(p api.Program) string {
	return fmt.Sprintf("vars %d, %d constants %x, %d lines %v", p.Vars, len(p.Consts), p.Consts[:min(3, len(p.Consts))], len(p.Code), p.Code[:min(8, len(p.Code))])
}

// Bytes.

func two(n int) []byte { return []byte{byte((n + 65536) % 256), byte((n + 65536) / 256 % 256)} }

func eight(x float64) []byte {
	var out []byte
	for bits := math.Float64bits(x); len(out) < 8; bits /= 256 {
		out = append(out, byte(bits%256))
	}
	return out
}

// formOf: P16.3, of a program with which nothing is wrong.
func formOf(p api.Program) []byte {
	b := append([]byte{86, 71, 1, byte(p.Vars)}, two(len(p.Consts))...)
	for _, x := range p.Consts {
		b = append(append(b, eight(x.Lo)...), eight(x.Hi)...)
	}
	b = append(b, two(len(p.Code))...)
	for _, in := range p.Code {
		b = append(b, byte(in.Op))
		for _, name := range uses(in.Op) {
			b = append(b, two(*field(&in, name))...)
		}
	}
	return b
}

// misplaced is thrown where bytes are no program's.
type misplaced int

// meant tells the program of bytes: P16.4; or that they are none, and the place.
func meant(b []byte) (p api.Program, at int, fine bool) {
	defer func() {
		if place, ok := recover().(misplaced); ok {
			p, at, fine = api.Program{}, int(place), false
		}
	}()
	next := 0
	part := func(size int, may func(form []byte) bool) []byte {
		if next+size > len(b) {
			panic(misplaced(len(b)))
		}
		form := b[next : next+size]
		if !may(form) {
			panic(misplaced(next))
		}
		next += size
		return form
	}
	number := func(size, least, most int) int {
		value := func(form []byte) int { return int(form[0]) + 256*int(append(form[:size:size], 0)[1]) }
		return value(part(size, func(form []byte) bool { return least <= value(form) && value(form) <= most }))
	}
	end := func(form []byte) float64 {
		bits := uint64(0)
		for i := range 8 {
			bits = bits*256 + uint64(form[7-i])
		}
		return math.Float64frombits(bits)
	}
	for _, first := range []int{86, 71, 1} {
		number(1, first, first)
	}
	p.Vars = number(1, 0, 32)
	for range number(2, 0, 256) {
		form := part(16, func(form []byte) bool { return right(iv(end(form), end(form[8:]))) })
		p.Consts = append(p.Consts, iv(end(form), end(form[8:])))
	}
	for at := range number(2, 1, 1024) {
		in := api.Ins{Op: number(1, 1, 21)}
		for _, name := range uses(in.Op) {
			switch {
			case name != 'N':
				*field(&in, name) = number(2, 0, p.Vars+at-1)
			case in.Op == api.OpConst:
				in.N = number(2, 0, len(p.Consts)-1)
			default:
				power := func(form []byte) int { return int(int16(int(form[0]) + 256*int(form[1]))) }
				in.N = power(part(2, func(form []byte) bool { return -1024 <= power(form) && power(form) <= 1024 }))
			}
		}
		p.Code = append(p.Code, in)
	}
	if next < len(b) {
		panic(misplaced(next))
	}
	return p, 0, true
}

// decodes: the bytes are a program's.
func decodes(t *testing.T, b []byte, want api.Program) {
	t.Helper()
	if p, at, e := expr.Decode(b); e != api.OK || at != 0 || !sameProgram(p, want) {
		t.Errorf("Decode(% x) = %s, %d, %d; want %s", cut(b), shown(p), at, e, shown(want))
	}
}

// refuses: the bytes are none's, and that is told at a place.
func refuses(t *testing.T, b []byte, place int) {
	t.Helper()
	p, at, e := expr.Decode(b)
	if e != api.ErrProgram || at != place || p.Vars != 0 || len(p.Consts) != 0 || len(p.Code) != 0 {
		t.Errorf("Decode(% x) = %s, %d, %d; want the place %d", cut(b), shown(p), at, e, place)
	}
}

func decodeByWords(t *testing.T, b []byte) {
	t.Helper()
	if p, at, fine := meant(b); fine {
		decodes(t, b, p)
	} else {
		refuses(t, b, at)
	}
}

// cut tells bytes, of many the first ones.
func cut(b []byte) []byte { return b[:min(len(b), 60)] }

// Runs.

// operandsOf tells the values of a line's operands.
func operandsOf(in api.Ins, values box) box {
	var out box
	for _, name := range uses(in.Op) {
		if name != 'N' {
			out = append(out, values[*field(&in, name)])
		}
	}
	return out
}

// goneThrough: P16.7 to P16.9, of a program with which nothing is wrong: each line's value, the answer
// of Eval, and the weakest of the decorations of the lines and of the constants that are named.
func goneThrough(p api.Program, b box) (lines box, value api.Interval, weakest int) {
	values := readBox(b)
	void := slices.Contains(values, empty)
	weakest = api.Com
	for _, in := range p.Code {
		y, d := empty, api.Trv
		switch {
		case void:
		case in.Op == api.OpConst:
			sure := deco.New(p.Consts[in.N])
			y, d = p.Consts[in.N], sure.D
		default:
			y, d = deco.Local(in.Op, in.N, operandsOf(in, values)...)
		}
		values, weakest = append(values, y), min(weakest, d)
	}
	if slices.Contains(values, empty) {
		return values[p.Vars:], empty, api.Trv
	}
	return values[p.Vars:], values[len(values)-1], weakest
}

// decorated: P16.9.
func decorated(p api.Program, b []api.Deco) api.Deco {
	var parts box
	weakest := api.Com
	for _, x := range b {
		x = readDeco(x)
		if x == nai {
			return nai
		}
		parts, weakest = append(parts, x.X), min(weakest, x.D)
	}
	_, y, d := goneThrough(p, parts)
	return api.Deco{X: y, D: min(weakest, d)}
}

// made tells an engine for a program with which nothing is wrong.
func made(t *testing.T, p api.Program) *expr.Engine {
	t.Helper()
	g, e := expr.New(p)
	if e != api.OK || g == nil {
		t.Fatalf("New(%s): %d", shown(p), e)
	}
	return g
}

func evals(t *testing.T, g *expr.Engine, want api.Interval, b ...api.Interval) {
	t.Helper()
	if y, e := g.Eval(b); e != api.OK || !same(y, want) {
		t.Errorf("Eval(%x) = %x, %d; want %x", b, y, e, want)
	}
}

func evalsDeco(t *testing.T, g *expr.Engine, want api.Deco, b ...api.Deco) {
	t.Helper()
	if y, e := g.EvalDeco(b); e != api.OK || !sameDeco(y, want) {
		t.Errorf("EvalDeco(%x) = %x, %d; want %x", b, y, e, want)
	}
}

func traces(t *testing.T, g *expr.Engine, b box, want ...api.Interval) {
	t.Helper()
	if l, e := g.Trace(b); e != api.OK || !sameBox(l, want) {
		t.Errorf("Trace(%x) = %x, %d; want %x", b, l, e, want)
	}
}

// runByWords asks all of an engine.
func runByWords(t *testing.T, g *expr.Engine, p api.Program, b box, dressed []api.Deco) {
	t.Helper()
	lines, y, _ := goneThrough(p, b)
	traces(t, g, b, lines...)
	evals(t, g, y, b...)
	evalsDeco(t, g, decorated(p, dressed), dressed...)
}
