package infix_test

import (
	"fmt"
	"slices"
	"strings"
	"testing"

	"verge/api"
	"verge/infix"
)

// P17.1

// takesNames: whether the names may be is told by Parse, whatever the text, and by Print.
func takesNames(t *testing.T, may bool, names ...string) {
	t.Helper()
	want := api.OK
	if !may {
		want = api.ErrName
	}
	if p, at, e := infix.Parse("1", names); e != want || at != 0 || may && p.Vars != len(names) {
		t.Errorf("Parse(1, %q) = %s, %d, %d; want %d", names, shown(p), at, e, want)
	}
	if !may {
		for _, text := range []string{"", "$", "x^1025", strings.Repeat("(", 300), strings.Repeat(" ", 65537), strings.Repeat("1+", 300) + "1"} {
			refuses(t, text, names, 0, api.ErrName)
		}
	}
	p := api.Program{Vars: min(len(names), 32), Consts: box{iv(1, 1)}, Code: []api.Ins{{Op: api.OpConst}}}
	s, e := infix.Print(p, names)
	if e != want || may != (s == "[1e0]") || !may && s != "" {
		t.Errorf("Print(1, %q) = %q, %d; want %d", names, s, e, want)
	}
}

func TestNamesThatMayBe(t *testing.T) {
	takesNames(t, true)
	for _, name := range []string{"x", "X", "a", "z", "A", "Z", "x1", "x_", "x__1_", "aZ09_", "e", "e1", "x1p1", "t0", "inf", "empty", "nai", "Sqr", "SQRT", "iD", "id_", "sqr2", "sqrtt", "sq", "recipe", "fm", "pow", "mi", "maximum", "neg", "const", "add", "roundeven", "i", "awa"} {
		takesNames(t, true, name)
		parses(t, name+"*"+name, []string{name}, api.Program{Vars: 1, Code: []api.Ins{{Op: api.OpMul}}})
		parses(t, "v="+name+";v", []string{name}, api.Program{Vars: 1, Code: []api.Ins{{Op: api.OpId}}})
		parses(t, name+"=v;"+name, []string{"v"}, api.Program{Vars: 1, Code: []api.Ins{{Op: api.OpId}}})
	}
	takesNames(t, true, "x", "X", "y", "x1", "x_1")
}

func TestNamesThatMayNotBe(t *testing.T) {
	for _, name := range []string{"", "1", "1a", "0", "_", "_a", "a b", " a", "a ", "a\n", "\na", "a.b", "a-b", "-a", "a+", "(a)", "a;", "a=", "a,b", "[1]", "[", "$", "a$", "\x00", "a\x00", "\u00e4", "a\u00e4", "\u00e4a", "\xff", "a\xff", "a\u200b", "\u212a", "a\u0660", "a\x7f", "a@", "a`", "a[", "a{", "a/", "a:", "@", "`", "{", "?"} {
		takesNames(t, false, name)
		takesNames(t, false, "x", name)
		takesNames(t, false, name, "y")
	}
}

// Each of the words is no name; capital letters make another one of it.
func TestWordsAreNoNames(t *testing.T) {
	for _, word := range wordList() {
		takesNames(t, false, word)
		takesNames(t, false, "x", word)
		takesNames(t, false, word, "y")
		takesNames(t, true, strings.ToUpper(word))
		takesNames(t, true, strings.ToUpper(word[:1])+word[1:])
		takesNames(t, true, word+"_")
		takesNames(t, true, word+"0")
		takesNames(t, true, "x"+word)
		refuses(t, word+" = x; x", []string{"x"}, len(word)+1, api.ErrText)
		refuses(t, word, []string{"x"}, len(word), api.ErrText)
	}
}

// Every byte as a name, and within one.
func TestBytesOfNames(t *testing.T) {
	for b := range 256 {
		c := string([]byte{byte(b)})
		takesNames(t, nameMayBe(c), c)
		takesNames(t, nameMayBe("q"+c), "q"+c)
		takesNames(t, nameMayBe("q"+c+"7"), "q"+c+"7")
		byWords(t, c, "x")
		byWords(t, "q"+c+"+x", "x", "q")
		byWords(t, "q"+c+"7+x", "x", "q")
		byWords(t, "q"+c+"7 = x; q"+c+"7", "x")
	}
}

func TestLengthOfNames(t *testing.T) {
	for _, n := range []int{1, 2, 63, 64} {
		for _, name := range []string{strings.Repeat("n", n), "N" + strings.Repeat("_", n-1), "n" + strings.Repeat("0", n-1)} {
			takesNames(t, true, name)
			parses(t, name+"/ "+name, []string{name}, api.Program{Vars: 1, Code: []api.Ins{{Op: api.OpDiv}}})
			parses(t, name+"=x; -"+name, []string{"x"}, api.Program{Vars: 1, Code: []api.Ins{{Op: api.OpNeg}}})
		}
	}
	for _, n := range []int{65, 66, 128, 4096, 65536} {
		for _, name := range []string{strings.Repeat("n", n), "N" + strings.Repeat("_", n-1), "n" + strings.Repeat("0", n-1)} {
			takesNames(t, false, name)
			takesNames(t, false, "x", name)
			if n < 65536 {
				refuses(t, "x+"+name, []string{"x"}, 2, api.ErrText)
				refuses(t, name+"=x;x", []string{"x"}, 0, api.ErrText)
			}
			refuses(t, name, []string{"x"}, 0, api.ErrText)
		}
	}
}

func TestNamesTwice(t *testing.T) {
	takesNames(t, false, "x", "x")
	takesNames(t, true, "x", "X")
	for _, n := range []int{2, 3, 31, 32} {
		for i := range n {
			for _, j := range []int{0, n / 2, n - 1} {
				names := numbered(n)
				names[j] = names[i]
				takesNames(t, i == j, names...)
			}
		}
	}
}

func numbered(n int) []string {
	var out []string
	for i := range n {
		out = append(out, fmt.Sprintf("n%d", i))
	}
	return out
}

func TestHowManyNames(t *testing.T) {
	for _, n := range []int{0, 1, 2, 31, 32} {
		names := numbered(n)
		takesNames(t, true, names...)
		for i, name := range names {
			parses(t, name, names, api.Program{Vars: n, Code: []api.Ins{{Op: api.OpId, A: i}}})
		}
		parses(t, "1 + 2", names, api.Program{Vars: n, Consts: box{iv(1, 1), iv(2, 2)}, Code: []api.Ins{{Op: api.OpConst}, {Op: api.OpConst, N: 1}, {Op: api.OpAdd, A: n, B: n + 1}}})
	}
	for _, n := range []int{33, 34, 64, 1000} {
		takesNames(t, false, numbered(n)...)
	}
	takesNames(t, false, make([]string, 33)...)
	if p, at, e := infix.Parse("1", []string{}); e != api.OK || at != 0 || p.Vars != 0 {
		t.Errorf("no names: %s, %d, %d", shown(p), at, e)
	}
}

// By chance: names of names, words and what is next to them.
func TestNamesByChance(t *testing.T) {
	d := dice(17101)
	for range 3000 {
		names := list(d.below(5), func() string {
			return pick(&d, pick(&d, "x", "y", "z", "x1"), pick(&d, wordList()...), pick(&d, strays()...), "t0", "w_")
		})
		takesNames(t, namesMayBe(names), slices.Clone(names)...)
		byWords(t, d.laid(d.formula([]string{"x", "y"}, 2)), names...)
	}
}
