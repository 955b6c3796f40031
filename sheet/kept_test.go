package sheet_test

import (
	"fmt"
	"slices"
	"strings"
	"testing"
)

// P21.3: what stands under names, and the rows that let it go.

// gives: a line for each kind of thing, that gives it to the name #; what show says of it, its kind.
func gives() []struct{ line, says, shown, kind string } {
	return []struct{ line, says, shown, kind string }{
		{"let # = [7]_def", "ok", "[7e0]_def", "interval"},
		{"box # = [1]; [2]", "ok 2", "[1e0]_com|[2e0]_com", "box"},
		{"form # = x - y", "ok 1 0", "x - y", "form"},
		{"goal # k = [3]", "ok", "in [3e0]|x * y", "goal"},
		{"load # 56470102000001000400000100", "ok 1 0", "v0 + v1", "form"},
	}
}

const keeper = "vars x y|form k = x * y"

// A name stands for the last thing that it was given, of whatever kind.
func TestGivenAnew(t *testing.T) {
	for _, first := range gives() {
		for _, second := range gives() {
			lines := strings.ReplaceAll(first.line+"|show #|"+second.line+"|show #|names|drop #|names|show #", "#", "q")
			saysBehind(t, keeper, lines, first.says, first.shown, second.says, second.shown, "k form|q "+second.kind, "ok", "k form", "error 171")
		}
	}
}

// As what is of another kind it stands for nothing.
func TestKindsAsked(t *testing.T) {
	asks := map[string]string{"op neg q": "interval", "fold sum 1 q": "box", "bytes q": "form", "pare 0 c q": "goal", "goal p q = [1]": "form", "eval q c": "form", "eval k q": "box", "pave 1 9 9 1 q h": "box", "pave 1 9 9 1 c q": "goal", "box p = q": "interval"}
	for _, row := range gives() {
		for ask, kind := range asks {
			got := behind(t, keeper+"|goal h k = [,]|box c = [1]; [2]|"+strings.ReplaceAll(row.line, "#", "q"), ask)
			if refused := got == "error 171\n"; refused != (kind != row.kind) {
				t.Errorf("%s; %s: %s", row.line, ask, shown(got))
			}
		}
	}
}

// A line that is refused leaves a name what it was.
func TestRefusedChangesNothing(t *testing.T) {
	for _, row := range gives() {
		ahead := keeper + "|" + strings.ReplaceAll(row.line, "#", "q")
		for _, line := range []string{"let q = [", "box q = [1];", "form q = z", "goal q k = x", "goal q z = [1]", "load q 00", "load q 0", "let q [1]", "box q", "pare 9 q k", "pave 1 9 9 1 q k", "drop q q", "drop", "clear q", "names q", "vars q q", "vars q -", "show", "# drop q"} {
			saysBehind(t, ahead+"|"+line, "show q|names|form p = x + y", row.shown, "k form|q "+row.kind, "ok 1 0")
		}
	}
}

func TestDrop(t *testing.T) {
	for _, row := range gives() {
		ahead := keeper + "|" + strings.ReplaceAll(row.line, "#", "q")
		saysBehind(t, ahead, "drop q|drop q|names|show q|drop k|names|drop k", "ok", "error 171", "k form", "error 171", "ok", "error 171")
	}
	saysBehind(t, things, "drop a|op neg a|drop b|fold sum 1 b|drop f|bytes f|drop g|names", "ok", "error 171", "ok", "error 171", "ok", "error 171", "ok")
	wrong(t, things, "error 171", "drop z", "drop x", "drop y", "drop A")
	wrong(t, things, "error 210", "drop", "drop a b", "drop a a", "drop [1]", "drop 1", "drop *", "drop z z", "drop sqrt")
	// What was made of it stays.
	saysBehind(t, things, "box c = a; a|drop a|show c|goal h f = [1]|drop f|show h|pare 1 b h", "ok 2", "ok", "[1e0, 2e0]_com|[1e0, 2e0]_com", "ok", "ok", "in [1e0]|x + y", "ok 1|[empty]|[empty]")
	saysBehind(t, things, "box c = a; a|let a = [7]|show c|pare 0 c g|show a|show b", "ok 2", "ok", "[1e0, 2e0]_com|[1e0, 2e0]_com", "ok 0|[1e0, 2e0]|[1e0, 2e0]", "[7e0]_com", "[0e0, 4e0]_com|[3e0, 9e0]_com")
}

func TestClear(t *testing.T) {
	saysBehind(t, things, "clear|names|show a|show b|show f|show g|form z = y - x|names", "ok", repeatedText("error 171", 4), "ok 1 0", "z form")
	saysBehind(t, things, "clear|clear|vars|clear|form f = x|form f = 1", "ok", "ok", "ok 0", "ok", "error 171 0", "ok 1 1")
	says(t, "clear|names", "ok")
	wrong(t, things, "error 210", "clear a", "clear z", "clear all", "clear 1", "clear =", "clear #")
}

func repeatedText(text string, n int) string { return strings.Join(repeated(n, text), "|") }

// Rising by their bytes: capital letters ahead of small ones, digits ahead of both, _ between.
func TestNamesRising(t *testing.T) {
	rising := []string{"A", "A0", "AA", "A_", "Aa", "B", "Z", "Zz", "a", "a0", "a00", "a1", "a10", "a2", "aA", "a_", "aa", "aaa", "ab", "b", "b9", "z", "zz", strings.Repeat("z", 64)}
	if !slices.IsSorted(rising) {
		t.Fatal("not rising")
	}
	want := strings.Join(rising, " interval|") + " interval"
	for _, step := range []int{1, 5, 7, 11, 13, 23} {
		var ahead []string
		for i := range rising {
			ahead = append(ahead, "let "+rising[i*step%len(rising)]+" = [1]")
		}
		saysBehind(t, strings.Join(ahead, "|"), "names", want)
	}
	wrong(t, things, "error 210", "names a", "names z", "names 1", "names =", "names [1]")
	saysBehind(t, "vars x y", "names", []string{}...)
	var many, all []string
	for n := range 500 {
		many = append(many, fmt.Sprintf("box q%03d =", n*7%500))
		all = append(all, fmt.Sprintf("q%03d box", n))
	}
	saysBehind(t, strings.Join(many, "|"), "names", strings.Join(all, "|"))
}

// A formula keeps the variables' names of its day.
func TestFormulaKeepsNames(t *testing.T) {
	says(t, "vars x y|form f = x - y|vars u|show f|form g = f|form g = u|show g|vars|show f|show g|vars y x|show f|form h = x - y|show h|bytes f|bytes h", "ok 2", "ok 1 0", "ok 1", "x - y", "error 171 0", "ok 1 0", "id(u)", "ok 0", "x - y", "id(u)", "ok 2", "x - y", "ok 1 0", "x - y", "56470102000001000500000100", "56470102000001000501000000")
	says(t, "vars x|form f = x|goal g f = [1]|vars y|form f = y + y|show g|goal g f = [2]|show g", "ok 1", "ok 1 0", "ok", "ok 1", "ok 1 0", "in [1e0]|id(x)", "ok", "in [2e0]|y + y")
	// Many times over: no day's names are lost to another day's.
	var ahead, want []string
	for n := range 40 {
		ahead = append(ahead, fmt.Sprintf("vars p%d q%d|form f%d = p%d - q%d", n, n, n, n, n))
	}
	for n := range 40 {
		want = append(want, fmt.Sprintf("p%d - q%d", n, n))
	}
	var ask []string
	for n := range 40 {
		ask = append(ask, fmt.Sprintf("show f%d", n))
	}
	saysBehind(t, strings.Join(ahead, "|"), strings.Join(ask, "|"), want...)
}
