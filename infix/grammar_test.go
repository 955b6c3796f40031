package infix_test

import (
	"strings"
	"testing"

	"verge/api"
)

// P17.3, and which fault is told: P17.5

// lead puts each token of some behind every beginning of a formula that is made of these, of fewer than so
// many: where it may stand and where it may not.
func lead(t *testing.T, some []string, most int, names ...string) {
	t.Helper()
	behind(t, some, nil, start(), most, names)
}

func behind(t *testing.T, some, ahead []string, may []*awaited, most int, names []string) {
	t.Helper()
	for _, word := range some {
		toks := append(ahead[:len(ahead):len(ahead)], word)
		byWords(t, strings.Join(toks, " "), names...)
		kind, _ := tokenOf(word)
		if next := follow(may, kind); len(next) > 0 && len(toks) < most {
			behind(t, some, toks, next, most, names)
		}
	}
}

// Every token at every place, behind few others.
func TestEveryTokenAnywhere(t *testing.T) {
	lead(t, []string{"x", "z", "7", "01", "1025", "[1]", "+", "-", "*", "/", "^", "(", ")", ",", ";", "=", "sqr", "pown", "min", "max", "fma", "$"}, 4, "x", "y")
	lead(t, wordList(), 2, "x")
	lead(t, append(wordList(), "(", "x", ",", ")"), 5, "x")
}

// Few tokens behind more others.
func TestFewTokensAnywhere(t *testing.T) {
	lead(t, []string{"x", "-", "^", "2", "(", ")"}, 7, "x")
	lead(t, []string{"x", "-", "*", "+", "^", "2"}, 6, "x")
	lead(t, []string{"x", "a", "=", ";", "b"}, 9, "x")
	lead(t, []string{"pown", "(", "x", ",", "-", "2", ")"}, 8, "x")
	lead(t, []string{"min", "(", "x", ",", ")"}, 10, "x")
	lead(t, []string{"fma", "(", "x", ",", ")"}, 10, "x")
	lead(t, []string{"sqr", "(", ")", "x", "-"}, 8, "x")
}

// Where texts end: within each rule, and behind it.
func TestTextsThatEnd(t *testing.T) {
	text := "a = -x ^ -2 + 3 ; b = ( a ) * pown ( y , - 3 ) / [1] ; fma ( a , b , min ( x , sqrt ( y ) ) ) - max ( 1 , b )"
	for at := range len(text) + 1 {
		byWords(t, text[:at], "x", "y")
		byWords(t, text[:at]+" \n", "x", "y")
		byWords(t, text[:at]+"$", "x", "y")
		byWords(t, text[:at]+")", "x", "y")
	}
	for _, text := range []string{"", " ", "\t\r\n", "x+", "x-", "x*", "x/", "x^", "x^-", "-", "--", "(", "(x", "(x+", "((x)", "sqr", "sqr(", "sqr(x", "min", "min(", "min(x", "min(x,", "min(x,y", "fma(x,y", "fma(x,y,", "fma(x,y,x", "pown", "pown(", "pown(x", "pown(x,", "pown(x,-", "pown(x,2", "a=", "a=x", "a=x;", "a=x; ", "a=x;b=", "a=x;b=y", "a=x;b=y;"} {
		refuses(t, text, xy(), len(text), api.ErrText)
		refuses(t, text+"  ", xy(), len(text)+2, api.ErrText)
		refuses(t, text+"  $", xy(), len(text)+2, api.ErrText)
	}
}

// Where the first token stands that cannot go on.
func TestPlacesOfText(t *testing.T) {
	for _, row := range []struct {
		text string
		at   int
	}{
		{"+x", 0}, {"*x", 0}, {"/x", 0}, {"^2", 0}, {")", 0}, {",", 0}, {";", 0}, {"=", 0}, {"x+*y", 2}, {"x*/y", 2}, {"x++y", 2}, {"x-+y", 2}, {"x*+y", 2}, {"-+x", 1}, {"-)", 1}, {"()", 1}, {"(x,y)", 2}, {"(x;y)", 2}, {"(x", 2}, {"x)", 1}, {"((x)))", 5}, {"x,y", 1}, {"x;", 1}, {"x;y", 1}, {"x+y;x", 3},
		{"x(y)", 1}, {"x[1]", 1}, {"x 1", 2}, {"1 x", 2}, {"1(x)", 1}, {"(x)(y)", 3}, {"(x)y", 3}, {"(x)2", 3}, {"sqr x", 4}, {"sqr", 3}, {"sqr()", 4}, {"sqr(x,y)", 5}, {"sqr(x;y)", 5}, {"sqr[1]", 3}, {"sqr 2", 4}, {"sqr-x", 3}, {"sqr^2", 3}, {"sqr*x", 3}, {"sqr)", 3}, {"sqr sqr(x)", 4}, {"x sqr(y)", 2}, {"sqr = x; x", 4},
		{"min(x)", 5}, {"min(x,)", 6}, {"min(,x)", 4}, {"min(x,y,x)", 7}, {"min(x y)", 6}, {"max()", 4}, {"fma(x)", 5}, {"fma(x,y)", 7}, {"fma(x,y,x,y)", 9}, {"pown(x)", 6}, {"pown(x,)", 7}, {"pown(x,y)", 7}, {"pown(x,(2))", 7}, {"pown(x,2,3)", 8}, {"pown(x,2+1)", 8}, {"pown(x,--2)", 8}, {"pown(x,+2)", 7}, {"pown(x,2.)", 7}, {"pown(x,02)", 7}, {"pown(x,2x)", 8}, {"pown(,2)", 5}, {"pown(x,[2])", 7}, {"pown(x,-y)", 8}, {"pown(x,2^2)", 8}, {"pown(x 2)", 7},
		{"x^y", 2}, {"x^(2)", 2}, {"x^--2", 3}, {"x^+2", 2}, {"x^2^3", 3}, {"x^2^", 3}, {"x^^2", 2}, {"x^-y", 3}, {"x^-(2)", 3}, {"x^sqr(x)", 2}, {"x^2 3", 4}, {"x^2x", 3}, {"x^2(x)", 3}, {"x^,", 2}, {"-x^-", 4}, {"x^[2]", 2}, {"(x^2", 4}, {"x^-[2]", 3}, {"x^-01", 3}, {"x^=", 2}, {"(x)^y", 4},
		{"a==x", 2}, {"a=x=y", 3}, {"a=;", 2}, {"a=x;;", 4}, {"a=x;=", 4}, {"a=x;)", 4}, {"x+y=x", 3}, {"1=x;x", 1}, {"-x=y;x", 2}, {"a=x,y", 3}, {"a=x)", 3}, {"a=x y;", 4}, {"a=(x;a", 4}, {"a=sqr(x;a", 7}, {"min(x=y", 5}, {"(x=y)", 2},
	} {
		refuses(t, row.text, xy(), row.at, api.ErrText)
		refuses(t, row.text+"$", xy(), row.at, api.ErrText)
	}
}

// Wholes: with a nought ahead, with a point, with an exponent, too great; behind ^ and in pown.
func TestWholes(t *testing.T) {
	for _, row := range []struct {
		text string
		n    int
		e    api.Errno
	}{
		{"0", 0, api.OK}, {"1", 1, api.OK}, {"9", 9, api.OK}, {"10", 10, api.OK}, {"1000", 1000, api.OK}, {"1023", 1023, api.OK}, {"1024", 1024, api.OK}, {"1025", 0, api.ErrPower}, {"1026", 0, api.ErrPower}, {"2048", 0, api.ErrPower}, {"10240", 0, api.ErrPower}, {"9999", 0, api.ErrPower},
		{"2147483647", 0, api.ErrPower}, {"2147483648", 0, api.ErrPower}, {"4294967296", 0, api.ErrPower}, {"4294967297", 0, api.ErrPower}, {"9223372036854775807", 0, api.ErrPower}, {"9223372036854775808", 0, api.ErrPower}, {"18446744073709551616", 0, api.ErrPower}, {"18446744073709551618", 0, api.ErrPower}, {"1" + strings.Repeat("0", 4095), 0, api.ErrPower}, {strings.Repeat("9", 4096), 0, api.ErrPower},
		{strings.Repeat("9", 4097), 0, api.ErrText}, {"00", 0, api.ErrText}, {"01", 0, api.ErrText}, {"02", 0, api.ErrText}, {"01025", 0, api.ErrText}, {"001024", 0, api.ErrText}, {"0" + strings.Repeat("9", 4095), 0, api.ErrText}, {"2.", 0, api.ErrText}, {"2.0", 0, api.ErrText}, {"0.", 0, api.ErrText}, {"0.5", 0, api.ErrText}, {"1025.", 0, api.ErrText}, {"2e0", 0, api.ErrText}, {"2E1", 0, api.ErrText}, {"2e-1", 0, api.ErrText}, {"0e0", 0, api.ErrText}, {"0x2p0", 0, api.ErrText}, {"0X0P0", 0, api.ErrText}, {"2e10000", 0, api.ErrText}, {"1e5", 0, api.ErrText},
	} {
		for _, f := range []struct {
			ahead, behind string
			sign          int
		}{
			{"x^", "", 1}, {"x ^ ", " ", 1}, {"x^-", "", -1}, {"x ^ - ", "\n", -1}, {"pown(x,", ")", 1}, {"pown(x, ", " )", 1}, {"pown(x,-", ")", -1}, {"pown(x , - ", " )", -1},
		} {
			text := f.ahead + row.text + f.behind
			if row.e != api.OK {
				refuses(t, text, []string{"x"}, len(f.ahead), row.e)
				refuses(t, text+"$", []string{"x"}, len(f.ahead), row.e)
				continue
			}
			parses(t, text, []string{"x"}, api.Program{Vars: 1, Code: []api.Ins{{Op: api.OpPown, N: f.sign * row.n}}})
		}
	}
}

// Names given and used.
func TestKnownNames(t *testing.T) {
	for _, row := range []struct {
		text string
		at   int
	}{
		{"z", 0}, {" z", 1}, {"x+z", 2}, {"z+x", 0}, {"(z)", 1}, {"-z", 1}, {"z^2", 0}, {"sqr(z)", 4}, {"min(x,z)", 6}, {"fma(x,y,z)", 8}, {"pown(z,2)", 5}, {"X", 0}, {"xx", 0}, {"x1", 0}, {"z z", 0}, {"z $", 0}, {"z(", 0}, {"z)", 0}, {"z;", 0}, {"z+", 0},
		{"a=a;a", 2}, {"a=x+a;a", 4}, {"a=b;b=x;a", 2}, {"a=x;b;", 4}, {"a=x;b", 4}, {"a=x;b=c;b", 6}, {"a=x;A", 4}, {"a=x;a1", 4}, {"a=x;a=y;a", 4}, {"a=x;b=y;a=x;b", 8}, {"a=x;b=a;b=b;b", 8}, {"a=x;a=", 4}, {"a=x;a=$", 4},
		{"x=y;x", 0}, {"y=x;x", 0}, {"x=1;x", 0}, {"a=x;y=a;y", 4}, {"x=", 0}, {"x=$", 0}, {"x=x;x", 0}, {"x = z;", 0}, {"x =\t", 0}, {"(a=x;a)", 1}, {"-a=x;a", 1}, {"sqr(a=x)", 4}, {"x+a=y;a", 2}, {"a=b=x;b", 2}, {"a=b=", 2},
	} {
		refuses(t, row.text, xy(), row.at, api.ErrName)
		refuses(t, row.text+" $", xy(), row.at, api.ErrName)
	}
	refuses(t, "x z", xy(), 2, api.ErrText) // what may not stand there is told ahead of what is not known
	parses(t, "a=y; x", xy(), api.Program{Vars: 2, Code: []api.Ins{{Op: api.OpId}}})
	parses(t, "a=x;b=a;c=b;c", xy(), api.Program{Vars: 2, Code: []api.Ins{{Op: api.OpId}}})
	parses(t, "a=x;y", xy(), api.Program{Vars: 2, Code: []api.Ins{{Op: api.OpId, A: 1}}})
	parses(t, "a=x;b=y;b-a", xy(), api.Program{Vars: 2, Code: []api.Ins{{Op: api.OpSub, A: 1, B: 0}}})
	parses(t, "a=[1];[2]", nil, api.Program{Consts: box{iv(1, 1), iv(2, 2)}, Code: []api.Ins{{Op: api.OpConst}, {Op: api.OpConst, N: 1}}})
}

// Of two faults the one with the least place; of two at one place ErrText.
func TestSeveralFaults(t *testing.T) {
	deep := strings.Repeat("(", 200)
	minuses := strings.Repeat("-", 200)
	for _, row := range []struct {
		text string
		at   int
		e    api.Errno
	}{
		{"z + $", 0, api.ErrName}, {"$ + z", 0, api.ErrText}, {"z^1025", 0, api.ErrName}, {"x^1025 + z", 2, api.ErrPower}, {"x^1025 $", 2, api.ErrPower}, {"x^1025 1025", 2, api.ErrPower}, {"x^01025", 2, api.ErrText}, {"x 1025", 2, api.ErrText}, {"x^z", 2, api.ErrText}, {"x^-z", 3, api.ErrText}, {"x z", 2, api.ErrText}, {"sqr z", 4, api.ErrText}, {"pown(x, z)", 8, api.ErrText}, {"pown(z, z)", 5, api.ErrName}, {"pown(x, 1025", 8, api.ErrPower}, {"pown(x, 1025, z)", 8, api.ErrPower},
		{"x = 1e10000; x", 0, api.ErrName}, {"a = 1e10000; x", 4, api.ErrText}, {"z = x^1025; z", 6, api.ErrPower}, {"z = z^1025; z", 4, api.ErrName}, {"a = x; a = x^1025; a", 7, api.ErrName}, {"x^1025; x", 2, api.ErrPower},
		{deep + "(", 200, api.ErrDeep}, {deep + "-", 200, api.ErrDeep}, {minuses + "-", 200, api.ErrDeep}, {minuses + "(", 200, api.ErrDeep}, {deep + "x (", 202, api.ErrText}, {deep + ")", 200, api.ErrText}, {deep + "z", 200, api.ErrName}, {deep + "z(", 200, api.ErrName}, {deep + "sqr(", 203, api.ErrDeep}, {deep + "sqr x", 204, api.ErrText}, {deep + "sqr", 203, api.ErrText}, {deep + "sqr sqr(", 204, api.ErrText}, {deep + "$(", 200, api.ErrText}, {deep + "x^-1025", 203, api.ErrPower}, {deep + "x^-(", 203, api.ErrText}, {deep + "x^(", 202, api.ErrText}, {deep + "x-(", 202, api.ErrDeep}, {deep + "x--", 202, api.ErrDeep}, {deep + "x-y-z", 204, api.ErrName}, {deep + "pown(", 204, api.ErrDeep},
		{"z" + deep + "(", 0, api.ErrName}, {"x" + deep + "(", 1, api.ErrText}, {"z=" + deep + "(", 202, api.ErrDeep}, {"x=" + deep + "(", 0, api.ErrName}, {"x^1025+" + deep + "(", 2, api.ErrPower}, {deep + "((((", 200, api.ErrDeep}, {deep + "(x^1025", 200, api.ErrDeep}, {deep + "(z", 200, api.ErrDeep}, {deep + "($", 200, api.ErrDeep},
	} {
		refuses(t, row.text, xy(), row.at, row.e)
		byWords(t, row.text, "x", "y")
	}
}

// Formulas by chance, and the same spoilt.
func TestFormulasByChance(t *testing.T) {
	d := dice(17301)
	fine := 0
	for range 4000 {
		toks := d.formula(xy(), d.below(5))
		if !byWords(t, d.laid(toks), "x", "y") {
			t.Logf("%q", toks)
		} else {
			fine++
		}
		spoilt := d.spoilt(toks)
		byWords(t, d.laid(spoilt), "x", "y")
		if len(spoilt) > 0 {
			byWords(t, d.laid(d.spoilt(spoilt)), "x", "y")
		}
		text := d.laid(toks)
		at := d.below(len(text))
		byWords(t, text[:at]+string([]byte{byte(d.below(256))})+text[at+1:], "x", "y")
		byWords(t, text[:at]+text[at+1:], "x", "y")
		byWords(t, text[:at], "x", "y")
	}
	if fine < 3500 {
		t.Errorf("of 4000 formulas %d are some", fine)
	}
}

// Texts of any bytes.
func TestAnyBytes(t *testing.T) {
	d := dice(17302)
	for range 20000 {
		text := string(list(d.below(12), func() byte { return byte(d.below(256)) }))
		byWords(t, text, "x", "y")
		byWords(t, strings.Join(list(d.below(12), func() string { return pick(&d, strays()...) }), pick(&d, "", " ")), "x", "y")
	}
}
