package infix_test

import (
	"fmt"
	"strings"
	"testing"

	"verge/api"
	"verge/infix"
)

// The limits of P17.5, and P17.9

// opening opens one bracket or minus, at a place within it, and is closed.
type opening struct {
	open, close string
	at          int
}

func openings() []opening {
	return []opening{{"(", ")", 0}, {"-", "", 0}, {"sqr(", ")", 3}, {"sqrt (", ")", 5}, {"pown(", ",2)", 4}, {"pown(", ",-2)^-2", 4}, {"min(", ",x)", 3}, {"min(x,", ")", 3}, {"max(x-x,", ")", 3}, {"fma(", ",x,x)", 3}, {"fma(x,", ",x)", 3}, {"fma(x,x,", ")", 3}, {"x-(", ")", 2}, {"x+(", ")-x", 2}, {"x^-2*(", ")^-3", 5}}
}

// MaxDeep of each, one more; and behind them as many again.
func TestDepth(t *testing.T) {
	for _, o := range openings() {
		for _, n := range []int{1, 2, 199, 200} {
			text := strings.Repeat(o.open, n) + "x" + strings.Repeat(o.close, n)
			for _, text := range []string{text, text + "*" + text + "+" + text, "a=" + text + ";b=" + text + ";a+b", "sqr(x)+-x-" + text} {
				byWords(t, text, "x")
				if _, _, e := infix.Parse(text, []string{"x"}); e == api.ErrDeep {
					t.Errorf("%d of %q are too deep", n, o.open)
				}
			}
		}
		ahead := strings.Repeat(o.open, 200)
		for _, n := range []int{201, 202, 400, 2000} {
			text := strings.Repeat(o.open, n) + "x" + strings.Repeat(o.close, n)
			refuses(t, text, []string{"x"}, len(ahead)+o.at, api.ErrDeep)
			refuses(t, strings.Repeat(o.open, n), []string{"x"}, len(ahead)+o.at, api.ErrDeep)
			refuses(t, "a = x; "+text, []string{"x"}, 7+len(ahead)+o.at, api.ErrDeep)
			refuses(t, "(x)*("+text, []string{"x"}, 5+199*len(o.open)+o.at, api.ErrDeep)
			refuses(t, "-x*-"+text, []string{"x"}, 4+199*len(o.open)+o.at+lost(o), api.ErrDeep)
		}
	}
}

// lost: behind a minus, an opening that begins with an operand ends it, and has room for one more.
func lost(o opening) int {
	if o.open[0] == 'x' {
		return len(o.open)
	}
	return 0
}

// What is closed is not counted: many side by side, and minuses until their operand's end.
func TestDepthSideBySide(t *testing.T) {
	deep := strings.Repeat("(", 199)
	for _, piece := range []string{"(x)", "-x", "sqr(x)", "-x^-2", "pown(x,-2)", "min(x,-x)", "-(x)", "x--x", "-x*-x", "-x-x", "-x/-x^2"} {
		n := 200 / (1 + strings.Count(piece, "x"))
		text := strings.Repeat(piece+"+", n) + piece
		if !byWords(t, text, "x") {
			t.Errorf("%q many times is refused", piece)
		}
		byWords(t, deep+text+strings.Repeat(")", 199), "x")
		byWords(t, deep+"("+text+strings.Repeat(")", 200), "x")
		byWords(t, deep+piece+piece, "x")
	}
	parses(t, strings.Repeat("(", 200)+"x^-2-x"+strings.Repeat(")", 200), []string{"x"}, api.Program{Vars: 1, Code: []api.Ins{{Op: api.OpPown, N: -2}, {Op: api.OpSub, A: 1}}})
	refuses(t, strings.Repeat("(", 200)+"x- -x", []string{"x"}, 203, api.ErrDeep)
	refuses(t, strings.Repeat("(", 200)+"x*-x", []string{"x"}, 202, api.ErrDeep)
	refuses(t, strings.Repeat("(", 199)+"-x*-(x", []string{"x"}, 203, api.ErrDeep)
	refuses(t, strings.Repeat("(", 199)+"-x*(-x", []string{"x"}, 203, api.ErrDeep)
	refuses(t, strings.Repeat("-", 200)+"sqr(x)", []string{"x"}, 203, api.ErrDeep)
	refuses(t, strings.Repeat("-", 199)+"min(-x,x)", []string{"x"}, 203, api.ErrDeep)
	parses(t, "pown("+strings.Repeat("(", 199)+"x"+strings.Repeat(")", 199)+",-3)", []string{"x"}, api.Program{Vars: 1, Code: []api.Ins{{Op: api.OpPown, N: -3}}})
}

// Openings of all kinds mixed, MaxDeep of them and about that.
func TestDepthMixed(t *testing.T) {
	d := dice(17501)
	fine := 0
	for range 250 {
		n := pick(&d, 195, 199, 200, 200, 200, 201, 205)
		open, shut := "", ""
		for range n {
			o := pick(&d, append(openings(), opening{"max(-x,", ")", 3}, opening{"fma((x),-x,", ")", 3}, opening{"(-x^2)*(", ")", 7}, opening{"x--", "", 2})...)
			open, shut = open+o.open, o.close+shut
		}
		if byWords(t, open+"x"+shut, "x") {
			fine++
		}
		byWords(t, open[:d.below(len(open))], "x")
		byWords(t, open+"x"+shut+"*"+open+"x"+shut, "x")
	}
	if fine == 0 {
		t.Error("none was a formula")
	}
}

func TestLongTexts(t *testing.T) {
	id := api.Program{Vars: 1, Code: []api.Ins{{Op: api.OpId}}}
	names := []string{"x"}
	for _, n := range []int{65535, 65536} {
		parses(t, strings.Repeat(" ", n-1)+"x", names, id)
		parses(t, "x"+strings.Repeat("\n", n-1), names, id)
		parses(t, "x"+strings.Repeat(" ", n-4)+"+ x", names, api.Program{Vars: 1, Code: []api.Ins{{Op: api.OpAdd}}})
		refuses(t, strings.Repeat(" ", n), names, n, api.ErrText)
		refuses(t, strings.Repeat(" ", n-1)+"$", names, n-1, api.ErrText)
		refuses(t, strings.Repeat(" ", n-1)+"z", names, n-1, api.ErrName)
		refuses(t, strings.Repeat(" ", n-2)+"x+", names, n, api.ErrText)
	}
	for _, n := range []int{65537, 65538, 1 << 20} {
		for _, text := range []string{strings.Repeat(" ", n-1) + "x", "x" + strings.Repeat(" ", n-1), strings.Repeat("$", n), strings.Repeat("z", n), strings.Repeat("(", n), "x^1025" + strings.Repeat(" ", n-6), strings.Repeat("1+", n/2) + "1"} {
			refuses(t, text, names, 65536, api.ErrLong)
			refuses(t, text, []string{"x", "x"}, 0, api.ErrName)
			refuses(t, text, []string{"min"}, 0, api.ErrName)
		}
	}
}

func TestManyConstants(t *testing.T) {
	names := []string{"x"}
	for _, one := range []string{"1", "[1]", "0x1p0", "[1,1]"} {
		for _, n := range []int{255, 256} {
			p, at, e := infix.Parse(strings.Repeat(one+"+", n-1)+one, names)
			if e != api.OK || at != 0 || len(p.Consts) != n || len(p.Code) != 2*n-1 {
				t.Errorf("%d of %s: %s, %d, %d", n, one, shown(p), at, e)
			}
			byWords(t, strings.Repeat(one+"*x^2+", n-1)+one, "x")
		}
		for _, n := range []int{257, 258, 300, 513, 2000} {
			text := strings.Repeat(one+"+", n-1) + one
			refuses(t, text, names, len(text), api.ErrConst)
			refuses(t, text+" ", names, len(text)+1, api.ErrConst)
			refuses(t, text+" +", names, len(text)+2, api.ErrText)
			refuses(t, text+" $", names, len(text)+1, api.ErrText)
			refuses(t, text+"+z", names, len(text)+1, api.ErrName)
			refuses(t, text+"+x^1025", names, len(text)+3, api.ErrPower)
			refuses(t, text+"+"+strings.Repeat("-", 201), names, len(text)+201, api.ErrDeep)
		}
	}
	lines := strings.Repeat("x+", 1100) + "x"
	for _, text := range []string{lines + strings.Repeat("+1", 257), strings.Repeat("1+", 257) + lines} {
		refuses(t, text, names, len(text), api.ErrConst) // and too many lines
	}
	text := lines + strings.Repeat("+1", 256)
	refuses(t, text, names, len(text), api.ErrCode)
	statements := ""
	for i := range 257 {
		statements += fmt.Sprintf("a%d=[%d];", i, i)
		if i == 255 {
			byWords(t, statements+"x", "x")
			byWords(t, statements+"a0", "x")
		}
	}
	refuses(t, statements+"x", names, len(statements)+1, api.ErrConst) // though nothing uses them
	powers := strings.Repeat("1*x^2+", 255) + "pown(1, 3)^4"
	if !byWords(t, powers, "x") { // a power is no constant
		t.Error("powers are counted as constants")
	}
}

func TestManyLines(t *testing.T) {
	names := []string{"x"}
	for _, n := range []int{1023, 1024} {
		parses(t, strings.Repeat("x+", n)+"x", names, chained(n))
		parses(t, "a="+strings.Repeat("x+", n)+"x;a", names, chained(n))
	}
	for _, n := range []int{1025, 1026, 2048, 20000, 32767} {
		text := strings.Repeat("x+", n) + "x"
		refuses(t, text, names, len(text), api.ErrCode)
		if n < 20000 {
			refuses(t, text+" $", names, len(text)+1, api.ErrText)
			refuses(t, text+"+z", names, len(text)+1, api.ErrName)
			refuses(t, "a="+text+";a", names, len(text)+4, api.ErrCode)
			refuses(t, text+" ", names, len(text)+1, api.ErrCode)
		}
	}
	// The line Id that is made at the end counts.
	for _, last := range []string{"x", "b"} {
		text := "b=x*x;a=" + strings.Repeat("x+", 1022) + "x;" + last
		p, at, e := infix.Parse(text, names)
		if e != api.OK || at != 0 || len(p.Code) != 1024 || p.Code[1023].Op != api.OpId {
			t.Errorf("1023 lines and Id: %s, %d, %d", shown(p), at, e)
		}
		text = "b=x*x;a=" + strings.Repeat("x+", 1023) + "x;" + last
		refuses(t, text, names, len(text), api.ErrCode)
	}
	parses(t, "b=x*x;a="+strings.Repeat("x+", 1023)+"x;a", names, after(chained(1023)))
	for _, n := range []int{1023, 1024, 1025} {
		byWords(t, "a="+strings.Repeat("sqr(", 150)+"x"+strings.Repeat(")", 150)+";"+strings.Repeat("x*", n-151)+"a-x", "x")
	}
}

// chained tells the program of x + x + .. of so many lines; after the same with x*x ahead of it.
func chained(lines int) api.Program {
	p := api.Program{Vars: 1}
	for i := range lines {
		p.Code = append(p.Code, api.Ins{Op: api.OpAdd, A: i})
	}
	return p
}

func after(p api.Program) api.Program {
	out := api.Program{Vars: 1, Code: []api.Ins{{Op: api.OpMul}}}
	for i, in := range p.Code {
		if i > 0 {
			in.A++
		}
		out.Code = append(out.Code, in)
	}
	return out
}

// Texts as deep and as long as can be end.
func TestGreatTextsEnd(t *testing.T) {
	for _, piece := range []string{"(", "-", "sqr(", "pown(", "min(x,", "fma(x,x,", "[", "x+", "x-", "x*", "x^", "x^2+", "-x-", "1+", "1e999+", "[1]*", "[1e999,2e999]+", "a=", "a=x;", "x;", ")", "x", "1", "0x1", "0x1p", "1.", "1e", "_", "\x00", "\xff", "(x)+", "()", ",", "=", ";", "^", "0x", "[]", "[[]", "x^-1+", "x^9+"} {
		n := 65536 / len(piece)
		text := strings.Repeat(piece, n)
		p, at, e := infix.Parse(text, []string{"x"})
		if e == api.OK || at > len(text) || !sameProgram(p, api.Program{}) {
			t.Errorf("%d of %q: %s, %d, %d", n, piece, shown(p), at, e)
		}
		if _, at, _ := infix.Parse(text[:len(text)/8*7]+"x", []string{"x"}); at > len(text) {
			t.Errorf("%q many times, and x: %d", piece, at)
		}
		if _, _, e := infix.Parse(text+text, []string{"x"}); e != api.ErrLong {
			t.Errorf("%d of %q: %d", 2*n, piece, e)
		}
	}
	var b strings.Builder
	for i := 0; b.Len() < 65000; i++ {
		fmt.Fprintf(&b, "n%d=x;", i)
	}
	parses(t, b.String()+"n0", []string{"x"}, api.Program{Vars: 1, Code: []api.Ins{{Op: api.OpId}}})
	refuses(t, b.String()+"m", []string{"x"}, b.Len(), api.ErrName)
}
