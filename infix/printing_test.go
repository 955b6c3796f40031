package infix_test

import (
	"fmt"
	"math"
	"slices"
	"strings"
	"testing"

	"verge/api"
	"verge/expr"
	"verge/infix"
)

// P17.6, P17.7 and P17.8

func prints(t *testing.T, p api.Program, names []string, want string) {
	t.Helper()
	if s, e := infix.Print(p, names); s != want || e != api.OK {
		t.Errorf("Print(%s, %v) = %q, %d; want %q", shown(p), names, cut(s), e, cut(want))
	}
}

func printsNot(t *testing.T, p api.Program, names []string, want api.Errno) {
	t.Helper()
	if s, e := infix.Print(p, names); s != "" || e != want {
		t.Errorf("Print(%s, %v) = %q, %d; want %d", shown(p), names, cut(s), e, want)
	}
}

func normals(t *testing.T, p, want api.Program) {
	t.Helper()
	if q, e := infix.Normal(p); e != api.OK || !sameProgram(q, want) {
		t.Errorf("Normal(%s) = %s, %d; want %s", shown(p), shown(q), e, shown(want))
	}
}

func normalsNot(t *testing.T, p api.Program, want api.Errno) {
	t.Helper()
	if q, e := infix.Normal(p); e != want || !sameProgram(q, api.Program{}) {
		t.Errorf("Normal(%s) = %s, %d; want %d", shown(p), shown(q), e, want)
	}
}

// backAgain holds all that is said of a program with which nothing is wrong.
func backAgain(t *testing.T, p api.Program, names []string) {
	t.Helper()
	text, n := printed(p, names), normal(p)
	prints(t, p, names, text)
	normals(t, p, n)
	normals(t, n, n)
	prints(t, n, names, text)
	if len(text) <= 65536 {
		parses(t, text, names, n)
		byWords(t, text, names...)
		q, _, _ := infix.Parse(text, names)
		prints(t, q, names, text)
	} else {
		refuses(t, text, names, 65536, api.ErrLong)
	}
}

func TestEachLinePrinted(t *testing.T) {
	two := []api.Ins{{Op: api.OpNeg, A: 2}} // line 0 is 3, of x, y, z
	for _, row := range []struct {
		in   api.Ins
		want string
	}{
		{ins(api.OpId, 0), "id(x)"}, {ins(api.OpId, 3), "id(t0)"}, {ins(api.OpNeg, 1), "-y"}, {ins(api.OpNeg, 3), "-t0"}, {ins(api.OpAdd, 0, 3), "x + t0"}, {ins(api.OpSub, 3, 1), "t0 - y"}, {ins(api.OpMul, 2, 2), "z * z"}, {ins(api.OpDiv, 3, 3), "t0 / t0"}, {ins(api.OpRecip, 2), "recip(z)"}, {ins(api.OpSqr, 0), "sqr(x)"}, {ins(api.OpSqrt, 0), "sqrt(x)"}, {ins(api.OpFMA, 0, 1, 2), "fma(x, y, z)"}, {ins(api.OpFMA, 3, 2, 0), "fma(t0, z, x)"}, {ins(api.OpPown, 0, 2), "pown(x, 2)"}, {ins(api.OpPown, 3, -1024), "pown(t0, -1024)"}, {ins(api.OpPown, 1, 0), "pown(y, 0)"}, {ins(api.OpPown, 1, 1024), "pown(y, 1024)"},
		{ins(api.OpAbs, 0), "abs(x)"}, {ins(api.OpMin, 0, 3), "min(x, t0)"}, {ins(api.OpMax, 3, 1), "max(t0, y)"}, {ins(api.OpSign, 0), "sign(x)"}, {ins(api.OpFloor, 1), "floor(y)"}, {ins(api.OpCeil, 2), "ceil(z)"}, {ins(api.OpTrunc, 3), "trunc(t0)"}, {ins(api.OpRoundEven, 0), "even(x)"}, {ins(api.OpRoundAway, 0), "away(x)"},
		{ins(api.OpConst, 0), "[1e0, 2e0]"}, {ins(api.OpConst, 1), "[empty]"}, {ins(api.OpConst, 2), "[entire]"}, {ins(api.OpConst, 3), "[5e-1]"}, {ins(api.OpConst, 4), "[-inf, 0e0]"},
	} {
		consts := box{iv(1, 2), empty, entire, iv(0.5, 0.5), iv(-inf, 0)}
		p := api.Program{Vars: 3, Consts: consts, Code: append(two[:1:1], row.in)}
		names := []string{"x", "y", "z"}
		prints(t, p, names, "t0 = -z; "+row.want)
		backAgain(t, p, names)
		p.Code = append(p.Code, api.Ins{Op: api.OpSub, A: 4, B: 3})
		prints(t, p, names, "t0 = -z; t1 = "+row.want+"; t1 - t0")
		backAgain(t, p, names)
	}
}

// What the printed names are, where variables have such names.
func TestPrintedNames(t *testing.T) {
	p := api.Program{Vars: 2, Code: []api.Ins{ins(api.OpAdd, 0, 1), ins(api.OpMul, 2, 0), ins(api.OpNeg, 3)}}
	for _, row := range []struct {
		x, y, stem string
	}{
		{"x", "y", "t"}, {"t", "T0", "t"}, {"t0", "y", "t_"}, {"t1", "y", "t_"}, {"x", "t0", "t_"}, {"x", "t1", "t_"}, {"t2", "t3", "t"}, {"t2", "x", "t"}, {"t00", "t01", "t"}, {"t10", "t11", "t"}, {"t_0", "t_1", "t"}, {"t0", "t_0", "t__"}, {"t0", "t_1", "t__"}, {"t_0", "t1", "t__"}, {"t0", "t_2", "t_"}, {"t0", "t__0", "t_"}, {"t0", "t1", "t_"}, {"t1", "t_", "t_"}, {"t0_", "t0x", "t"}, {"tt0", "t1t", "t"}, {"t_2", "t_3", "t"},
	} {
		names := []string{row.x, row.y}
		prints(t, p, names, fmt.Sprintf("%s0 = %s + %s; %s1 = %s0 * %s; -%s1", row.stem, row.x, row.y, row.stem, row.stem, row.x, row.stem))
		backAgain(t, p, names)
		one := api.Program{Vars: 2, Code: []api.Ins{ins(api.OpAdd, 0, 1)}}
		prints(t, one, names, row.x+" + "+row.y)
		backAgain(t, one, names)
	}
	// All names of variables that can be in the way.
	for _, vars := range []int{1, 2, 31, 32} {
		var names []string
		for i := range vars {
			names = append(names, "t"+strings.Repeat("_", i)+fmt.Sprint(i%2))
		}
		q := sums(vars, 3)
		s, _ := infix.Print(q, names)
		if stem := "t" + strings.Repeat("_", vars) + "0 = "; !strings.HasPrefix(s, stem) {
			t.Errorf("%d names: %q; want %q", vars, cut(s), stem)
		}
		backAgain(t, q, names)
	}
	long := sums(2, 1024)
	for _, row := range []struct{ name, stem string }{{"t1022", "t_"}, {"t1023", "t"}, {"t1024", "t"}, {"t999", "t_"}, {"t0999", "t"}, {"t_1022", "t"}} {
		names := []string{"x", row.name}
		if s, _ := infix.Print(long, names); !strings.HasPrefix(s, row.stem+"0 = ") {
			t.Errorf("%s: %q", row.name, cut(s))
		}
		backAgain(t, long, names)
	}
}

// wrong tells programs that Check refuses, each with its error.
func wrong() map[api.Errno][]api.Program {
	line := func(in api.Ins) api.Program {
		return api.Program{Vars: 1, Consts: box{iv(1, 2)}, Code: []api.Ins{{Op: api.OpId}, in}}
	}
	return map[api.Errno][]api.Program{
		api.ErrVars:    {{Vars: -1}, {Vars: 33}, {Vars: math.MinInt, Code: []api.Ins{{Op: api.OpConst}}}, {Vars: math.MaxInt, Consts: box{iv(2, 1)}}},
		api.ErrConst:   {{Consts: fixed(257, 1).Consts, Code: []api.Ins{{Op: api.OpConst}}}, {Vars: 1, Consts: box{iv(2, 1)}, Code: []api.Ins{{Op: api.OpId}}}, {Vars: 1, Consts: box{iv(signed, 1)}}, {Vars: 1, Consts: box{iv(nan, 1)}, Code: []api.Ins{{}}}},
		api.ErrCode:    {{}, {Vars: 32}, {Vars: 1, Consts: box{iv(1, 2)}, Code: []api.Ins{}}, sums(1, 1025), {Code: make([]api.Ins, 1025)}},
		api.ErrOp:      {line(api.Ins{}), line(api.Ins{Op: 22}), line(api.Ins{Op: -1}), line(api.Ins{Op: math.MaxInt, A: -1, N: 2000})},
		api.ErrOperand: {line(api.Ins{Op: api.OpId, A: 2}), line(api.Ins{Op: api.OpId, A: -1}), line(api.Ins{Op: api.OpId, B: 1}), line(api.Ins{Op: api.OpConst, N: 1}), line(api.Ins{Op: api.OpConst, N: -1}), line(api.Ins{Op: api.OpConst, A: 1}), line(api.Ins{Op: api.OpFMA, C: 2}), line(api.Ins{Op: api.OpAdd, C: 1}), line(api.Ins{Op: api.OpAdd, N: 1})},
		api.ErrPower:   {line(api.Ins{Op: api.OpPown, N: 1025}), line(api.Ins{Op: api.OpPown, N: -1025}), line(api.Ins{Op: api.OpPown, N: math.MaxInt}), line(api.Ins{Op: api.OpPown, N: math.MinInt})},
	}
}

func TestProgramsThatAreNone(t *testing.T) {
	for e, programs := range wrong() {
		for _, p := range programs {
			if _, err := expr.Check(p); err != e {
				t.Fatalf("Check(%s) = %d; want %d", shown(p), err, e)
			}
			normalsNot(t, p, e)
			for _, names := range [][]string{nil, {"x"}, {"x", "x"}, {"min"}, {""}, make([]string, 40)} {
				printsNot(t, p, names, e)
			}
		}
	}
	// With too many lines OpConst besides.
	p := fixed(1, 257)
	p.Code[256] = api.Ins{Op: 22}
	p.Code = append(p.Code, api.Ins{Op: api.OpConst})
	normalsNot(t, p, api.ErrOp)
	printsNot(t, p, nil, api.ErrOp)
}

func TestNamesOfPrint(t *testing.T) {
	for _, vars := range []int{0, 1, 2, 31, 32} {
		p := api.Program{Vars: vars, Consts: box{iv(1, 1)}, Code: []api.Ins{{Op: api.OpConst}}}
		many := fixed(1, 257)
		many.Vars = vars
		for n := range 36 {
			if n == vars {
				prints(t, p, numbered(n), "[1e0]")
				printsNot(t, many, numbered(n), api.ErrConst)
				continue
			}
			printsNot(t, p, numbered(n), api.ErrName)
			printsNot(t, many, numbered(n), api.ErrName)
		}
		for i := range vars {
			for _, bad := range []string{"", "1a", "_", "sqrt", "pown", "a b", strings.Repeat("n", 65), "n99\u00e4"} {
				names := numbered(vars)
				names[i] = bad
				printsNot(t, p, names, api.ErrName)
				printsNot(t, many, names, api.ErrName)
			}
			names := numbered(vars)
			names[i] = names[0]
			if i > 0 {
				printsNot(t, p, names, api.ErrName)
			}
		}
	}
}

// Constants: several lines name one, no line names one, more lines than MaxConsts.
func TestConstantsOfNormal(t *testing.T) {
	consts := box{iv(0, 0), iv(1, 1), iv(2, 2), iv(3, 3)}
	for _, row := range []struct {
		numbers []int
		want    box
	}{
		{[]int{0}, box{iv(0, 0)}}, {[]int{3}, box{iv(3, 3)}}, {[]int{3, 2, 1, 0}, box{iv(3, 3), iv(2, 2), iv(1, 1), iv(0, 0)}}, {[]int{1, 1, 1}, box{iv(1, 1), iv(1, 1), iv(1, 1)}}, {[]int{2, 0, 2}, box{iv(2, 2), iv(0, 0), iv(2, 2)}},
	} {
		p := api.Program{Vars: 1, Consts: consts}
		want := api.Program{Vars: 1, Consts: row.want}
		for i, n := range row.numbers {
			p.Code = append(p.Code, api.Ins{Op: api.OpConst, N: n}, api.Ins{Op: api.OpAdd, A: 0, B: 1 + 2*i})
			want.Code = append(want.Code, api.Ins{Op: api.OpConst, N: i}, api.Ins{Op: api.OpAdd, A: 0, B: 1 + 2*i})
		}
		normals(t, p, want)
		backAgain(t, p, []string{"x"})
	}
	normals(t, api.Program{Vars: 1, Consts: consts, Code: []api.Ins{{Op: api.OpPown, N: 3}}}, api.Program{Vars: 1, Code: []api.Ins{{Op: api.OpPown, N: 3}}})
	for _, n := range []int{1, 255, 256} {
		backAgain(t, fixed(1, n), nil)
		backAgain(t, fixed(256, n), nil)
		backAgain(t, fixed(2, n), nil)
		with := fixed(3, n)
		with.Code = append(with.Code, api.Ins{Op: api.OpAdd, A: n - 1, B: 0})
		backAgain(t, with, nil)
	}
	for _, n := range []int{257, 258, 512, 513, 1024} {
		for _, consts := range []int{1, 256} {
			normalsNot(t, fixed(consts, n), api.ErrConst)
			printsNot(t, fixed(consts, n), nil, api.ErrConst)
		}
	}
}

func TestBackAgain(t *testing.T) {
	backAgain(t, each(), []string{"x", "y", "t3"})
	backAgain(t, sums(1, 1024), []string{"x"})
	backAgain(t, sums(32, 1024), numbered(32))
	backAgain(t, api.Program{Vars: 1, Consts: box{iv(least, greatest), iv(-greatest, -least)}, Code: []api.Ins{ins(api.OpConst, 0), ins(api.OpConst, 1), ins(api.OpMul, 1, 2)}}, []string{"x"})
	long := make([]string, 32) // names so long that the text is longer than a formula may be
	for i := range long {
		long[i] = fmt.Sprintf("v%s%02d", strings.Repeat("_", 61), i)
	}
	backAgain(t, sums(32, 1024), long)
	backAgain(t, sums(32, 500), long)
	d := dice(17601)
	for range 4000 {
		p := d.program(d.below(4), d.below(5), 1+d.below(14))
		backAgain(t, p, d.names(p.Vars))
	}
	for range 30 {
		p := d.program(d.below(33), d.below(257), 1+d.below(400))
		backAgain(t, p, d.names(p.Vars))
	}
}

// What Parse answers is its own Normal, and is told by a formula that is read back.
func TestParsedIsNormal(t *testing.T) {
	d := dice(17602)
	for range 1500 {
		names := d.names(d.below(4))
		p, _, e := infix.Parse(d.laid(d.formula(names, d.below(4))), names)
		if e != api.OK {
			continue
		}
		if _, e := expr.Check(p); e != api.OK {
			t.Errorf("%s: %d", shown(p), e)
		}
		normals(t, p, p)
		backAgain(t, p, names)
	}
}

// Blanks between tokens change nothing but places; these are still those of the same tokens.
func TestBlanksChangeNothing(t *testing.T) {
	d := dice(17603)
	for range 4000 {
		toks := d.formula(xy(), d.below(4))
		if d.below(3) == 0 {
			toks = d.spoilt(toks)
		}
		p, at, e := infix.Parse(strings.Join(toks, " "), xy())
		q, other, err := infix.Parse("\n"+strings.Join(toks, "\r\n\t ")+" ", xy())
		if e != err || !sameProgram(p, q) {
			t.Errorf("%q: %s, %d; with other blanks %s, %d", toks, shown(p), e, shown(q), err)
		}
		if e == api.OK {
			continue
		}
		first, second := starts(toks, "", " ", ""), starts(toks, "\n", "\r\n\t ", " ")
		if n := slices.Index(first, at); n < 0 || second[n] != other {
			t.Errorf("%q: %d at %d; with other blanks at %d", toks, e, at, other)
		}
	}
}

// starts tells where tokens begin in a text with blanks ahead of them, between them and behind them; and
// where it ends.
func starts(toks []string, ahead, between, behind string) []int {
	var out []int
	at := len(ahead)
	for _, t := range toks {
		out = append(out, at)
		at += len(t) + len(between)
	}
	return append(out, len(ahead+strings.Join(toks, between)+behind))
}
