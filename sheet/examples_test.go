package sheet_test

import (
	"strings"
	"testing"
)

// The rows of the chapter's examples, and the ten of the document's page. Lines are parted by strokes.

func TestExamples(t *testing.T) {
	for _, row := range []struct{ in, want string }{
		{"vars x y|form f = x*y + 1|box b = [1, 2]; [3]|eval f b", "ok 2|ok 3 1|ok 2|[4e0, 7e0]_com"},
		{"let a = [1, 2]_def|op add a [1,1]|op add a", "ok|[2e0, 3e0]_def|error 210"},
		{"op div [1,2] [0,1]|op sqrt [-2,-1]|pown -1 [2]", "[1e0, inf]_trv|[empty]_trv|[5e-1]_com"},
		{"vars x|form f = x^2 - 2|box b = [0, 2]|goal g f = [0]|pare 0 b g|eval f b", "ok 1|ok 3 1|ok 1|ok|ok 0|[0e0, 2e0]|[-2e0, 2e0]_com"},
		{"eval f b|let a = [2, 1]|form f = x|show a|nonsense", "error 171|error 120 4|error 171 0|error 171|error 210"},
		{"# nothing|names|let b = []|vars q|names|drop b|drop b", "ok|ok 1|b interval|ok|error 171"},
	} {
		says(t, row.in, row.want)
	}
}

func TestExamplesOfTheWhole(t *testing.T) {
	const next = "564701010100000000000000f03f000000000000f03f02000100000400000100"
	for _, row := range []struct{ in, want string }{
		{"vars x|form f = x*x|box b = [-1, 2]|eval f b", "ok 1|ok 1 0|ok 1|[-2e0, 4e0]_com"},
		{"vars x|form f = x^2|box b = [-1, 2]|eval f b", "ok 1|ok 1 0|ok 1|[0e0, 4e0]_com"},
		{"vars x y|form f = 1/x + y|box b = [0, 1]; [1, 2]|eval f b", "ok 2|ok 3 1|ok 2|[2e0, inf]_trv"},
		{"op floor [1,1.5]|op floor [0.5,1]|op sqrt [-2,-1]", "[1e0]_com|[0e0, 1e0]_def|[empty]_trv"},
		{"vars x y|form f = x|box b = [1, 2]; [nai]|eval f b", "ok 2|ok 1 0|ok 2|[nai]"},
		{"vars x y|form f = x + y|goal g f = [5]|box b = [0, 4]; [3, 9]|pare 9 b g", "ok 2|ok 1 0|ok|ok 2|ok 2|[0e0, 2e0]|[3e0, 5e0]"},
		{"vars x|form f = x|goal g f = [1, 2]|box b = [0, 3]|pave 0.5 9 9 4 b g", "ok 1|ok 1 0|ok|ok 1|ok 1 0 0 1 1|inner [1e0, 2e0]"},
		{"vars x|form f = x*x|box b = [1, 3]|slopes f b|mean f b", "ok 1|ok 1 0|ok 1|[1e0, 9e0]|[2e0, 6e0]|[1e0, 9e0]"},
		{"let a = [0.1]|print 2 a|back mul 0 [4] [0,8] [1,2]", "ok|[9.9e-2, 1.1e-1]_com|[2e0, 4e0]_trv"},
		{"vars x|form f = x+1|bytes f|load g " + next + "|show g", "ok 1|ok 2 1|" + next + "|ok 2 1|t0 = [1e0]; v0 + t0"},
	} {
		says(t, row.in, row.want)
		if want := told(row.want); played(lines(row.in)) != want {
			t.Errorf("by the words %s says %s", row.in, shown(played(lines(row.in))))
		}
	}
}

// All of them in one text, with a clear line between: the variables are set anew by those that ask for any.
func TestExamplesInOneText(t *testing.T) {
	in := "vars x|form f = x*x|box b = [-1, 2]|eval f b|clear|op floor [1,1.5]|clear|let a = [0.1]|print 2 a"
	says(t, strings.Repeat(in+"|", 3), strings.TrimSuffix(strings.Repeat("ok 1|ok 1 0|ok 1|[-2e0, 4e0]_com|ok|[1e0]_com|ok|ok|[9.9e-2, 1.1e-1]_com|", 3), "|"))
}
