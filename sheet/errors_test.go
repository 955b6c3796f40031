package sheet_test

import (
	"strings"
	"testing"
)

// P21.4: which error is told, and with which place.

// Of a command a line whose words have not the form, one whose names stand for nothing of the kind, one
// that a call refuses; each has what is wrong with those behind it, too.
func TestWhichErrorComesFirst(t *testing.T) {
	many := strings.Repeat(" g", 33)
	for _, row := range []struct{ form, name, call, refused string }{
		{"vars x x 1", "vars x x", "", ""},
		{"let z [1, x]", "", "let z = [1, x]", "error 120 4"},
		{"let 1 = [1, x]", "", "let z = [1e10000]", "error 51 3"},
		{"box z [1, x]", "box z = q; [1, x]", "box z = [1, x]; q", "error 120 4"},
		{"form min = x + q", "", "form z = x + q", "error 171 4"},
		{"form z x +", "", "form z = x +", "error 170 3"},
		{"goal z q q = [2, 1]", "goal z q = [2, 1]", "goal z f = [2, 1]", "error 120 4"},
		{"goal z q [2, 1]", "goal z a = [2, 1]", "goal z f = [1]_com", "error 120 3"},
		{"show q q", "show q", "show k", "error 161"},
		{"print -1 q", "print 0 q", "print 0 a", "error 1"},
		{"print 1.5 f", "print 9999 f", "print 9999 b", "error 1"},
		{"op add q .", "op add q [2,1]", "op add a [2,1]", "error 120 3"},
		{"op plus q [2,1]", "op add [2,1] q", "op add [2,1] [1", "error 120 3"},
		{"op add q [2,1] a", "op fma [2,1] b a", "op fma [1e10000] a [", "error 51 3"},
		{"pown q q", "pown 2 q", "pown 2 [2,1]", "error 120 3"},
		{"back add 2 q [ .", "back add 2 q [ a", "back add 2 a [ [2,1]", "error 120 1"},
		{"back add . a [ q", "back add 2 a [ q", "back add 2 [2,1] [ a", "error 120 3"},
		{"eval q c d", "eval q c", "eval f c", "error 3"},
		{"eval f", "eval f f", "eval f e", "error 3"},
		{"trace f c c", "trace c c", "trace f c", "error 3"},
		{"slopes f .", "slopes f f", "slopes f c", "error 3"},
		{"mean", "mean g c", "mean f c", "error 3"},
		{"newton f c -1", "newton q c 9", "newton f c 9", "error 3"},
		{"newton q c", "newton f q 9", "newton f b 9", "error 1"},
		{"fold most 0 q", "fold sum 0 q", "fold sum 0 b", "error 1"},
		{"fold mean 0 e e", "fold mean 0 a", "fold mean 1 e", "error 1"},
		{"dot 0 q 1", "dot 0 q b", "dot 0 b b", "error 1"},
		{"dot -1 b c", "dot 1 b f", "dot 1 b c", "error 1"},
		{"pare 4097 q", "pare 4097 q" + many, "pare 4097 c" + many, "error 1"},
		{"pare -1 c" + many, "pare 1 c" + many + " q", "pare 1 c" + many, "error 200"},
		{"pare 1 c g .", "pare 1 c g q", "pare 1 c g", "error 3"},
		{"pave x 1 1 0 q g", "pave -1 1 1 0 q" + many, "pave -1 1 1 0 c" + many, "error 200"},
		{"pave 1 1 1 0 c", "pave 1 1 1 0 c q", "pave 1 1 1 0 c g", "error 3"},
		{"pave -1 1 1 b g", "pave -1 1 1 0 b q", "pave -1 1 1 0 b g", "error 201"},
		{"bytes q q", "bytes q", "", ""},
		{"load z 5647010", "", "load z 564701", "error 166 3"},
		{"load z 00FF", "", "load z 00ff", "error 166 0"},
		{"drop q q", "drop q", "", ""},
	} {
		all := things + "|box c = [1]|box e =|load k 564701000100000000000000f03f000000000000f03f0101" + strings.Repeat("010000", 257)
		wrong(t, all, "error 210", row.form)
		if row.name != "" {
			wrong(t, all, "error 171", row.name)
		}
		if row.call != "" {
			wrong(t, all, row.refused, row.call)
		}
	}
}

// A place is told of what was handed to a call: of the text behind the =, of the part, of the item, of the
// bytes; not of the line.
func TestPlaces(t *testing.T) {
	for _, row := range []struct{ line, want string }{
		{"let z = [1, x]", "error 120 4"}, {"let  z  =  [1, x]  ", "error 120 4"}, {"\tlet longer =\t[1,  x]", "error 120 5"}, {"let z = x", "error 120 0"}, {"let z = [1, 2]_co", "error 120 9"},
		{"box z = [1, x]", "error 120 4"}, {"box z = [1];  [1,  x]", "error 120 5"}, {"box z = a;a;a;[1", "error 120 2"}, {"box z = -;", "error 120 1"},
		{"form z =  x + ", "error 170 3"}, {"form z = x\t+\tu", "error 171 4"}, {"form z = x + 2^1025", "error 165 6"}, {"form z =  -" + strings.Repeat("(", 200) + "x", "error 172 200"},
		{"goal z f =  [1, x] ", "error 120 4"}, {"goal z f = ", "error 120 0"}, {"goal g f = [1/0]", "error 120 3"},
		{"op add a [1,x]", "error 120 3"}, {"op  add  [1,2  a", "error 120 4"}, {"op fma a a -", "error 120 1"}, {"pown 2 [1,x]", "error 120 3"}, {"back add 1 a [1,x] a", "error 120 3"}, {"back fma 1 a a a +", "error 120 1"},
		{"load z 5647", "error 166 2"}, {"load  z  564701ff ", "error 166 3"},
	} {
		wrong(t, things, row.want, row.line)
	}
}

// The errors that the page has: each that can be told by a sheet, and how.
func TestEveryError(t *testing.T) {
	long := strings.Repeat("1", 4097)
	for _, row := range []struct{ line, want string }{
		{"fold sum 0 b", "error 1"}, {"let z = [" + long, "error 2 4096"}, {"op neg " + long, "error 2 4096"}, {"goal z f = " + long, "error 2 4096"}, {"eval f a1", "error 171"}, {"let z = [1e10000]", "error 51 3"}, {"goal z f = [0,1e10000]", "error 51 5"}, {"let z = ?", "error 120 0"}, {"load z 0000", "error 166 0"},
		{"form z = " + strings.Repeat("1+", 256) + "1", "error 161 513"}, {"form z = " + strings.Repeat("x+", 1025) + "x", "error 162 2051"}, {"form z = x^-1025", "error 165 3"}, {"form z = x x", "error 170 2"}, {"form z = xx", "error 171 0"}, {"form z = " + strings.Repeat("-", 201) + "x", "error 172 200"}, {"pare 1 b" + strings.Repeat(" g", 33), "error 200"}, {"pave -1 1 1 1 b g", "error 201"}, {"#", ""}, {"no", "error 210"},
	} {
		if row.want == "" {
			saysBehind(t, things, row.line)
			continue
		}
		wrong(t, things, row.want, row.line)
	}
}

// One line's error is nothing to the lines behind it.
func TestErrorsBetween(t *testing.T) {
	says(t, "let a = [1]|let a = [|op neg a|op neg b|pown a|vars x x|form f = x|vars x|form f = x|let a = x|show a|no|show f", "ok", "error 120 1", "[-1e0]_com", "error 171", "error 210", "error 171", "error 171 0", "ok 1", "ok 1 0", "error 120 0", "[1e0]_com", "error 210", "id(x)")
}
