package infix_test

import (
	"strings"
	"testing"

	"verge/api"
)

// P17.2

func constant(x api.Interval) api.Program {
	return api.Program{Vars: 2, Consts: box{x}, Code: []api.Ins{{Op: api.OpConst}}}
}

func TestBlanks(t *testing.T) {
	want := api.Program{Vars: 2, Consts: box{iv(1, 1)}, Code: []api.Ins{{Op: api.OpPown, N: -2}, {Op: api.OpConst}, {Op: api.OpMin, A: 2, B: 3}}}
	toks := []string{"v", "=", "x", "^", "-", "2", ";", "min", "(", "v", ",", "[1]", ")"}
	for _, blank := range []string{"", " ", "\t", "\n", "\r", "\r\n", " \t\n\r \t"} {
		for at := range len(toks) + 1 {
			text := strings.Join(toks[:at], "") + blank + strings.Join(toks[at:], "")
			parses(t, text, xy(), want)
		}
		parses(t, blank+strings.Join(toks, blank)+blank, xy(), want)
	}
	for b := range 256 {
		c := string([]byte{byte(b)})
		for _, text := range []string{c + "x", "x" + c, "x" + c + "+y", "x+" + c + "y", "x + " + c + " y", "x*" + c} {
			byWords(t, text, "x", "y")
		}
	}
	for _, c := range []string{"\v", "\f", "\x00", "\x08", "\x0b", "\x0c", "\x0e", "\x1f", "\x21", "\x7f", "\x80", "\x85", "\xa0", "\u00a0", "\u0085", "\u2003", "\u3000", "\ufeff", "\ufffd", "\xff", "\xc3", "\u00e4", "\U0001f600", "\"", "'", "#", "%", "&", ".", ":", "<", ">", "?", "@", "\\", "]", "`", "{", "|", "}", "~", "!"} {
		refuses(t, c, xy(), 0, api.ErrText)
		refuses(t, c+"x", xy(), 0, api.ErrText)
		refuses(t, "x"+c, xy(), 1, api.ErrText)
		refuses(t, "x + "+c+"y", xy(), 4, api.ErrText)
		refuses(t, "x + y "+c, xy(), 6, api.ErrText)
	}
	refuses(t, "_", xy(), 0, api.ErrText)
	refuses(t, "_x", xy(), 0, api.ErrText)
	refuses(t, "x _", xy(), 2, api.ErrText)
	refuses(t, "x_", xy(), 0, api.ErrName)
}

func TestBlanksWithinTokens(t *testing.T) {
	for _, row := range []struct {
		text string
		at   int
		e    api.Errno
	}{
		{"sq rt(x)", 0, api.ErrName}, {"1 2", 2, api.ErrText}, {"1 .5", 2, api.ErrText}, {"1. 5", 3, api.ErrText}, {"1e 5", 1, api.ErrText}, {"1 e5", 2, api.ErrText}, {"0x 1p1", 1, api.ErrText}, {"0x1 p1", 1, api.ErrText},
		{"x x", 2, api.ErrText}, {"x^1 0", 4, api.ErrText}, {"min (x, y) (", 11, api.ErrText},
	} {
		refuses(t, row.text, xy(), row.at, row.e)
	}
	parses(t, "sqrt \n (x)", xy(), api.Program{Vars: 2, Code: []api.Ins{{Op: api.OpSqrt}}})
	parses(t, "[ 1\n,\t2\r]", xy(), constant(iv(1, 2)))
}

// What numerals are, of each kind, and how far they go.
func TestNumerals(t *testing.T) {
	tenth := iv(0x1.9999999999999p-4, 0x1.999999999999ap-4)
	for _, row := range []struct {
		text string
		want api.Interval
	}{
		{"0", iv(0, 0)}, {"00", iv(0, 0)}, {"007", iv(7, 7)}, {"1", iv(1, 1)}, {"1.", iv(1, 1)}, {"1.5", iv(1.5, 1.5)}, {"0.1", tenth}, {"1e-1", tenth}, {"1E-01", tenth}, {"1.e-1", tenth}, {"10.0e-2", tenth}, {"1e2", iv(100, 100)}, {"1e+2", iv(100, 100)}, {"1E2", iv(100, 100)},
		{"0x1p0", iv(1, 1)}, {"0X1P0", iv(1, 1)}, {"0x.8p+1", iv(1, 1)}, {"0x1.8p-1", iv(0.75, 0.75)}, {"0xa.P1", iv(20, 20)}, {"0xFfp1", iv(510, 510)}, {"0x1e5p0", iv(0x1e5, 0x1e5)}, {"0x1p0010", iv(1024, 1024)},
		{"1e400", iv(greatest, inf)}, {"1e-400", iv(0, least)}, {"0x1p9999", iv(greatest, inf)}, {"0x1p-9999", iv(0, least)}, {"1e9999", iv(greatest, inf)}, {"1e0000000009999", iv(greatest, inf)}, {"0e9999", iv(0, 0)}, {"0x0p-0", iv(0, 0)},
		{"9007199254740993", iv(0x1p53, 0x1p53+2)}, {"5e-324", iv(least, 2*least)}, {"2e-324", iv(0, least)}, {strings.Repeat("0", 4095) + "3", iv(3, 3)}, {"1." + strings.Repeat("0", 4094), iv(1, 1)},
	} {
		parses(t, row.text, xy(), constant(row.want))
		parses(t, " "+row.text+"\n", xy(), constant(row.want))
		parses(t, "("+row.text+")", xy(), constant(row.want))
	}
}

// The longest beginning that is a numeral ends where something else begins.
func TestLongestNumerals(t *testing.T) {
	for _, row := range []struct {
		text string
		at   int
	}{
		{"1e", 1}, {"1e+", 1}, {"1e-", 1}, {"1ee5", 1}, {"1e5e", 3}, {"1e5.", 3}, {"1e5.5", 3}, {"1e5 5", 4}, {"1..", 2}, {"1..5", 2}, {"1.5.", 3}, {"1.5.5", 3}, {"1.x", 2}, {"1.e", 2}, {"1.e+", 2}, {"1x", 1}, {"1p5", 1}, {"1_", 1}, {"1_0", 1}, {"1[", 1}, {"1[2]", 1}, {"1(2)", 1}, {"1x5", 1}, {"00x1p1", 2}, {"1f", 1}, {"1i", 1},
		{"0x", 1}, {"0X", 1}, {"0x1", 1}, {"0x1p", 1}, {"0x1P", 1}, {"0x1p+", 1}, {"0x1p-", 1}, {"0xp1", 1}, {"0x.p1", 1}, {"0x1.8", 1}, {"0xg", 1}, {"0x1e5", 1}, {"0x1p1p", 5}, {"0x1p1.", 5}, {"0x1p1a", 5}, {"0x1.8.8p1", 1}, {"0xx1p1", 1}, {"0x1p1e5", 5}, {"0x1p0x1p1", 5}, {"0b1", 1}, {"0o7", 1}, {"1e5x", 3}, {"1?", 1}, {"3.5?1", 3}, {"1e5?", 3},
		{".5", 0}, {".", 0}, {"+1", 0}, {"+.5", 0}, {"x .5", 2}, {"1 1", 2},
	} {
		refuses(t, row.text, xy(), row.at, api.ErrText)
		refuses(t, "x*"+row.text, xy(), row.at+2, api.ErrText)
	}
	parses(t, "1/3", xy(), api.Program{Vars: 2, Consts: box{iv(1, 1), iv(3, 3)}, Code: []api.Ins{{Op: api.OpConst}, {Op: api.OpConst, N: 1}, {Op: api.OpDiv, A: 2, B: 3}}})
	parses(t, "1-3", xy(), api.Program{Vars: 2, Consts: box{iv(1, 1), iv(3, 3)}, Code: []api.Ins{{Op: api.OpConst}, {Op: api.OpConst, N: 1}, {Op: api.OpSub, A: 2, B: 3}}})
	parses(t, "1.+3.", xy(), api.Program{Vars: 2, Consts: box{iv(1, 1), iv(3, 3)}, Code: []api.Ins{{Op: api.OpConst}, {Op: api.OpConst, N: 1}, {Op: api.OpAdd, A: 2, B: 3}}})
	refuses(t, "1/0x", xy(), 3, api.ErrText)
	refuses(t, "1/", xy(), 2, api.ErrText)
}

// Every byte at every place of a numeral, and in the place of each of its bytes.
func TestBytesOfNumerals(t *testing.T) {
	for _, numeral := range []string{"12.5e+10", "0x1a.Fp-10", "0X.8P1", "7.", "00"} {
		for at := range len(numeral) + 1 {
			for b := range 256 {
				c := string([]byte{byte(b)})
				byWords(t, numeral[:at]+c+numeral[at:], "x", "e")
				if at < len(numeral) {
					byWords(t, numeral[:at]+c+numeral[at+1:], "x", "e")
					byWords(t, "x*"+numeral[:at]+c, "x", "e")
				}
			}
		}
	}
}

// What digits.Read refuses for its length or its exponent begins no token: not even a shorter one.
func TestNumeralsTooGreat(t *testing.T) {
	for _, text := range []string{"1e10000", "1E+10000", "1e-10000", "0x1p10000", "0x1p-99999", "1e99999999999999999999", "1.5e0010000", strings.Repeat("1", 4097), strings.Repeat("0", 4097), "1." + strings.Repeat("5", 4095), "1e" + strings.Repeat("0", 4095), "0x" + strings.Repeat("1", 4093) + "p1", strings.Repeat("7", 60000)} {
		refuses(t, text, xy(), 0, api.ErrText)
		refuses(t, " "+text+"x", xy(), 1, api.ErrText)
		refuses(t, "x^"+text, xy(), 2, api.ErrText)
		refuses(t, "x^-"+text, xy(), 3, api.ErrText)
		refuses(t, "x + "+text+" + $", xy(), 4, api.ErrText)
		refuses(t, "x "+text, xy(), 2, api.ErrText)
		refuses(t, "z*"+text, xy(), 0, api.ErrName)
	}
}

func TestLiterals(t *testing.T) {
	for _, row := range []struct {
		text string
		want api.Interval
	}{
		{"[]", empty}, {"[ ]", empty}, {"[empty]", empty}, {"[ EMPTY ]", empty}, {"[entire]", entire}, {"[,]", entire}, {"[1]", iv(1, 1)}, {"[-1]", iv(-1, -1)}, {"[-0]", iv(0, 0)}, {"[ +1.5e0 ]", iv(1.5, 1.5)}, {"[1/4]", iv(0.25, 0.25)}, {"[1,2]", iv(1, 2)}, {"[\t1\n,\r2 ]", iv(1, 2)}, {"[1,]", iv(1, inf)}, {"[,-1]", iv(-inf, -1)},
		{"[-inf,+infinity]", entire}, {"[0x1p-1, 1e400]", iv(0.5, inf)}, {"[1e400]", iv(greatest, inf)}, {"[" + strings.Repeat(" ", 4093) + "1]", iv(1, 1)}, {"[.5]", iv(0.5, 0.5)},
	} {
		parses(t, row.text, xy(), constant(row.want))
		parses(t, "("+row.text+")", xy(), constant(row.want))
	}
	for _, text := range []string{"[", "[1", "[1,", "[1,2", "[2,1]", "[nai]", "[1;2]", "[x]", "[x,y]", "[[1]]", "[[1]", "[1,2,3]", "[1/0]", "[1e10000]", "[1 2]", "[3?]", "[em]", "[(1)]", "[1+1]", "[-]", "[inf,inf]", "[\u00e4]", "[\xff]", "[1\v]", "[" + strings.Repeat(" ", 4094) + "1]", "[" + strings.Repeat("1", 60000), "[" + strings.Repeat("[", 60000), "]", "]1["} {
		refuses(t, text, xy(), 0, api.ErrText)
		refuses(t, "x+"+text, xy(), 2, api.ErrText)
		refuses(t, "x "+text, xy(), 2, api.ErrText)
	}
	refuses(t, "[1]]", xy(), 3, api.ErrText)
	refuses(t, "[1]_com", xy(), 3, api.ErrText)
	refuses(t, "[1] [2]", xy(), 4, api.ErrText)
	refuses(t, "[1]x", xy(), 3, api.ErrText)
	refuses(t, "x^[2]", xy(), 2, api.ErrText)
	refuses(t, "[1] = x; x", xy(), 4, api.ErrText)
	refuses(t, "x + [1 + y]", xy(), 4, api.ErrText)
}

// Every text of a few bytes of which numerals are made.
func TestShortTexts(t *testing.T) {
	for n := range 5 {
		every(n, "01.eExXpP+-/a_", func(s string) { byWords(t, s, "x", "e", "p1") })
	}
	for n := range 6 {
		every(n, "01.xep+", func(s string) { byWords(t, "0"+s, "x") })
	}
	for n := range 5 {
		every(n, "[]1,- ", func(s string) { byWords(t, s, "x"); byWords(t, "["+s, "x"); byWords(t, "x*["+s+"]", "x") })
	}
}

// every tells all texts of n bytes of some.
func every(n int, of string, tell func(s string)) {
	if n == 0 {
		tell("")
		return
	}
	every(n-1, of, func(s string) {
		for i := range len(of) {
			tell(s + of[i:i+1])
		}
	})
}
