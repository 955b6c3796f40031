package sheet_test

import (
	"fmt"
	"strings"
	"testing"
)

// P21.5: the rows that ask about formulas, boxes and goals.

// overBox asks that a command refuses what is no formula and box for it; more stands behind these.
func overBox(t *testing.T, command, more string) {
	t.Helper()
	line := func(words string) string { return command + words + more }
	wrong(t, things, "error 171", line(" z b"), line(" f z"), line(" b f"), line(" f f"), line(" b b"), line(" a b"), line(" f a"), line(" g b"), line(" f g"), line(" z z"))
	wrong(t, things, "error 210", line(""), line(" f"), line(" f b b"), line(" f b f"), line(" f [1]"), line(" [1] b"), line(" f [0,4];[3,9]"), line(" 1 b"), line(" z z z"), line(" f b = 1"), line(" x+y b"))
	wrong(t, things+"|box c = [1]|box d = a; a; a|box e =", "error 3", line(" f c"), line(" f d"), line(" f e"))
	wrong(t, things+"|box c = []|box d = [nai]; [nai]; a", "error 3", line(" f c"), line(" f d"))
}

func TestEval(t *testing.T) {
	overBox(t, "eval", "")
	saysBehind(t, things, "eval f b", "[3e0, 1.3e1]_com")
	for _, row := range []struct{ form, box, want string }{
		{"x*y + 1", "[1, 2]; [3]", "[4e0, 7e0]_com"}, {"x*y + 1", "[1, 2]_def; [3]", "[4e0, 7e0]_def"}, {"x*y + 1", "[1, 2]; [3]_trv", "[4e0, 7e0]_trv"}, {"x", "[1, 2]; [3]_dac", "[1e0, 2e0]_dac"}, {"x", "[1, 2]; []", "[empty]_trv"}, {"x", "[1, 2]; [nai]", "[nai]"}, {"1", "[nai]; []", "[nai]"}, {"1", "[1]; []", "[empty]_trv"},
		{"1/x + y", "[0, 1]; [1, 2]", "[2e0, inf]_trv"}, {"sqrt(x)", "[-4, 4]; [0]", "[0e0, 2e0]_trv"}, {"floor(x)", "[0.5, 1]; [0]", "[0e0, 1e0]_def"}, {"x + y", "[1,]; [2]", "[3e0, inf]_dac"}, {"x + [1, 2]", "[1]; [2]", "[2e0, 3e0]_com"}, {"x + []", "[1]; [2]", "[empty]_trv"}, {"x + [1,]", "[1]; [2]", "[2e0, inf]_dac"},
	} {
		says(t, "vars x y|form f = "+row.form+"|box b = "+row.box+"|eval f b", strings.Split(told("ok 2")+behind(t, "vars x y", "form f = "+row.form)+"ok 2\n"+row.want, "\n")...)
	}
	says(t, "vars|form f = 0.5|box b =|eval f b", "ok 0", "ok 1 1", "ok 0", "[5e-1]_com")
}

func TestTrace(t *testing.T) {
	overBox(t, "trace", "")
	saysBehind(t, things, "form f = (x - y)*x + 1|trace f b", "ok 4 1", "[-9e0, 1e0]|[-3.6e1, 4e0]|[1e0]|[-3.5e1, 5e0]")
	saysBehind(t, things, "box b = [nai]; [1]|trace f b|box b = []; [1]|trace f b", "ok 2", "[empty]", "ok 2", "[empty]")
	saysBehind(t, things, "form f = sqrt(x)*0 + y|box b = [-2, -1]_def; [1]_trv|trace f b", "ok 4 1", "ok 2", "[empty]|[0e0]|[empty]|[empty]")
	says(t, "form f = 1 + 0.5|box b =|trace f b", "ok 3 2", "ok 0", "[1e0]|[5e-1]|[1.5e0]")
}

func TestSlopes(t *testing.T) {
	overBox(t, "slopes", "")
	saysBehind(t, things, "slopes f b", "[3e0, 1.3e1]|[1e0]|[1e0]")
	saysBehind(t, things, "form f = x + y*y|box b = [0, 1]; [2, 3]|slopes f b", "ok 2 0", "ok 2", "[4e0, 1e1]|[1e0]|[4e0, 6e0]")
	saysBehind(t, things, "form f = y|slopes f b|form f = sqrt(x)|box b = [-2, -1]; [1]|slopes f b", "ok 1 0", "[3e0, 9e0]|[0e0]|[1e0]", "ok 1 0", "ok 2", "[empty]|[empty]|[empty]")
	saysBehind(t, things, "box b = [nai]; [1]|slopes f b", "ok 2", "[empty]|[empty]|[empty]")
	says(t, "form f = 1|box b =|slopes f b", "ok 1 1", "ok 0", "[1e0]")
}

func TestMean(t *testing.T) {
	overBox(t, "mean", "")
	says(t, "vars x|form f = x - sqr(x)|box b = [0.25, 0.75]|mean f b|eval f b", "ok 1", "ok 2 0", "ok 1", "[1.25e-1, 3.75e-1]", "[-3.125e-1, 6.875e-1]_com")
	says(t, "vars x|form f = 1/x|box b = [-1, 1]|mean f b|box b = [nai]|mean f b", "ok 1", "ok 2 1", "ok 1", "[entire]", "ok 1", "[empty]")
	says(t, "form f = 1|box b =|mean f b", "ok 1 1", "ok 0", "[1e0]")
}

func TestNewton(t *testing.T) {
	overBox(t, "newton", " 0")
	overBox(t, "newton", " 7")
	says(t, "vars x|form f = sqr(x) - 2|box b = [1, 2]|newton f b 0|newton f b 1", "ok 1", "ok 3 1", "ok 1", "[1.375e0, 1.4375e0]", "error 1")
	saysBehind(t, things, "form f = x - y|newton f b 0|newton f b 1|newton f b 2", "ok 1 0", "[3e0, 4e0]", "[3e0, 4e0]", "error 1")
	saysBehind(t, things, "form f = x - 3|newton f b 0|newton f b 1", "ok 2 1", "[3e0]", "[3e0, 9e0]")
	says(t, "form f = 1|box b =|newton f b 0", "ok 1 1", "ok 0", "error 1")
	wrong(t, things, "error 210", "newton f b", "newton f b x", "newton 0 f b", "newton f 0 b", "newton f b 0 0", "newton f b -1", "newton f b a", "newton z z -1")
	wrong(t, things+"|box c = [1]", "error 3", "newton f c 9")
}

func TestFold(t *testing.T) {
	const lists = "box b = [-3, 2]; [2, 3]|box c = [3]; [4]|box d = [1]; [1]; [0]|box e =|box n = [1]; [nai]|box m = [1]; []|box o = [,1]_trv; [2]_def"
	for _, row := range []struct{ line, want string }{
		{"sum 1 b", "[-1e0, 5e0]"}, {"abs 2 b", "[2e0, 6e0]"}, {"squares 3 b", "[4e0, 1.8e1]"}, {"norm2 4 c", "[5e0]"}, {"mean 5 b", "[-5e-1, 2.5e0]"}, {"mean 16 c", "[3.5e0]"}, {"sum 2 c", "[7e0]"}, {"abs 2 c", "[7e0]"}, {"squares 2 c", "[2.5e1]"}, {"sum 1 o", "[-inf, 3e0]"}, {"abs 1 o", "[2e0, inf]"},
		{"sum 1 e", "[0e0]"}, {"abs 1 e", "[0e0]"}, {"squares 1 e", "[0e0]"}, {"norm2 1 e", "[0e0]"}, {"mean 1 e", "error 1"}, {"sum 1 n", "[empty]"}, {"mean 1 n", "[empty]"}, {"norm2 1 m", "[empty]"}, {"abs 1 m", "[empty]"}, {"squares 1 n", "[empty]"}, {"sum 0 e", "error 1"}, {"sum 17 e", "error 1"},
		{"norm2 3 d", "[" + written(0x1.6a09e667f3bccp+0) + ", " + written(0x1.6a09e667f3bcdp+0) + "]"}, {"mean 3 d", "[" + written(0x1.5555555555555p-1) + ", " + written(0x1.5555555555556p-1) + "]"},
	} {
		saysBehind(t, lists, "fold "+row.line, row.want)
	}
	for _, kind := range []string{"sum", "abs", "squares", "mean", "norm2"} {
		wrong(t, things, "error 1", "fold "+kind+" 0 b", "fold "+kind+" 17 b")
		wrong(t, things, "error 171", "fold "+kind+" 1 a", "fold "+kind+" 1 f", "fold "+kind+" 1 g", "fold "+kind+" 1 z", "fold "+kind+" 0 z")
		wrong(t, things, "error 210", "fold "+kind, "fold "+kind+" 1", "fold "+kind+" b", "fold "+kind+" b 1", "fold 1 "+kind+" b", "fold "+kind+" 1 b b", "fold "+kind+" -1 b", "fold "+kind+" 1 [1]", "fold "+kind+" 1 [1];[2]", kind+" 1 b")
	}
	wrong(t, things, "error 210", "fold", "fold most 1 b", "fold Sum 1 b", "fold norm 1 b", "fold norm1 1 b", "fold square 1 b", "fold dot 1 b", "fold min 1 b", "fold = 1 b", "fold most 0 z", "fold summ 1 b", "fold su 1 b")
	// The order of a list, and how it is shared, make no difference.
	var parts []string
	sum := 0
	for n := range 1000 {
		x := n*n%1009 - 500
		sum += x
		parts = append(parts, fmt.Sprintf("[%d]", x))
	}
	total := "[" + written(float64(sum)) + "]"
	for workers := 1; workers <= 16; workers++ {
		saysBehind(t, "box b = "+strings.Join(parts, ";"), fmt.Sprintf("fold sum %d b", workers), total)
	}
}

func TestDot(t *testing.T) {
	const lists = "box a = [1, 2]; [3, 4]|box b = [5, 6]; [-1, 1]|box c = [1]|box e =|box n = [nai]|box l = [0, 1]_trv"
	for _, row := range []struct{ line, want string }{
		{"1 a b", "[1e0, 1.6e1]"}, {"3 b a", "[1e0, 1.6e1]"}, {"16 a a", "[1e1, 2e1]"}, {"1 e e", "[0e0]"}, {"1 c n", "[empty]"}, {"2 c l", "[0e0, 1e0]"}, {"1 a c", "error 1"}, {"1 c a", "error 1"}, {"1 c e", "error 1"}, {"1 e c", "error 1"}, {"0 a b", "error 1"}, {"17 a b", "error 1"}, {"0 e e", "error 1"},
	} {
		saysBehind(t, lists, "dot "+row.line, row.want)
	}
	wrong(t, things, "error 171", "dot 1 a b", "dot 1 b a", "dot 1 b f", "dot 1 g b", "dot 1 z b", "dot 0 b z")
	wrong(t, things, "error 210", "dot", "dot 1", "dot 1 b", "dot b b", "dot b b 1", "dot b 1 b", "dot 1 b b b", "dot 1 b [1]", "dot 1 [1] b", "dot -1 b b", "dot sum 1 b b", "dot 1 z", "dot z z z")
}

func TestPare(t *testing.T) {
	const two = "vars x y|form f = x + y|goal g f = [5]|form f = x - y|goal h f = [1]|box b = [0, 10]_def; [0, 10]_trv"
	saysBehind(t, two, "pare 0 b g h|show b", "ok 0|[0e0, 1e1]|[0e0, 1e1]", "[0e0, 1e1]_com|[0e0, 1e1]_com")
	saysBehind(t, two, "pare 1 b g h|show b", "ok 1|[1e0, 5e0]|[0e0, 4e0]", "[1e0, 5e0]_com|[0e0, 4e0]_com")
	saysBehind(t, two, "pare 1 b h g|show b", "ok 1|[1e0, 5e0]|[0e0, 4e0]", "[1e0, 5e0]_com|[0e0, 4e0]_com")
	saysBehind(t, two, "pare 3 b g h|pare 3 b g h", "ok 2|[1e0, 5e0]|[0e0, 4e0]", "ok 1|[1e0, 5e0]|[0e0, 4e0]")
	saysBehind(t, two, "pare 1 b g|pare 1 b h|show b", "ok 1|[0e0, 5e0]|[0e0, 5e0]", "ok 1|[1e0, 5e0]|[0e0, 4e0]", "[1e0, 5e0]_com|[0e0, 4e0]_com")
	saysBehind(t, two, "pare 9 b h", "ok 2|[1e0, 1e1]|[0e0, 9e0]")
	saysBehind(t, two, "box c = b|box c = [0, 10]; [0, 10]|pare 9 c g|show b|show c", "error 171", "ok 2", "ok 2|[0e0, 5e0]|[0e0, 5e0]", "[0e0, 1e1]_def|[0e0, 1e1]_trv", "[0e0, 5e0]_com|[0e0, 5e0]_com")
	// Decorations anew: of what is unbounded, of what is Empty, of NaI.
	saysBehind(t, two, "box b = [,1]_trv; [,]|pare 0 b g|show b", "ok 2", "ok 0|[-inf, 1e0]|[entire]", "[-inf, 1e0]_dac|[entire]_dac")
	saysBehind(t, two, "box b = [nai]; [1]|pare 9 b g|show b|eval f b", "ok 2", "ok 0|[empty]|[empty]", "[empty]_trv|[empty]_trv", "[empty]_trv")
	saysBehind(t, two, "box b = [1]; []|pare 0 b g|show b", "ok 2", "ok 0|[empty]|[empty]", "[empty]_trv|[empty]_trv")
	saysBehind(t, two, "box b = [0, 1]; [0, 1]|pare 9 b g|show b", "ok 2", "ok 1|[empty]|[empty]", "[empty]_trv|[empty]_trv")
	// A box without parts.
	saysBehind(t, "form f = 1|goal g f = [1]|goal h f = [2]|box b =", "pare 9 b g|pare 9 b h|pare 0 b g h|show b|names", "ok 1", "ok 1", "ok 0", "b box|f form|g goal|h goal")
	wrong(t, two, "error 1", "pare 4097 b g", "pare 4097 b g h")
	wrong(t, two+"|box c = [1]", "error 1", "pare 4097 c g", "pare 4097 c"+strings.Repeat(" g", 33))
	wrong(t, two+"|box c = [1]", "error 200", "pare 1 b"+strings.Repeat(" g", 33), "pare 1 c"+strings.Repeat(" g", 33), "pare 1 b"+strings.Repeat(" g", 9000))
	saysBehind(t, two, "pare 1 b"+strings.Repeat(" g", 32), "ok 1|[0e0, 5e0]|[0e0, 5e0]")
	wrong(t, two+"|box c = [1]|box d = [1]; [1]; [1]|box e =", "error 3", "pare 1 c g", "pare 1 d g h", "pare 1 e g", "pare 0 c g")
	wrong(t, two+"|vars x|form f = x|goal k f = [1]", "error 3", "pare 1 b k", "pare 1 b g k", "pare 1 b k g", "pare 0 b g k")
	wrong(t, things, "error 171", "pare 1 z g", "pare 1 b z", "pare 1 b g z", "pare 1 b z g", "pare 1 g b", "pare 1 a g", "pare 1 f g", "pare 1 b f", "pare 1 b a", "pare 1 b g b", "pare 9999 b z", "pare 9999 z g", "pare 1 b"+strings.Repeat(" g", 33)+" z")
	wrong(t, things, "error 210", "pare", "pare 1", "pare 1 b", "pare b g", "pare b 1 g", "pare b g 1", "pare -1 b g", "pare 1 [1] g", "pare 1 b g 1", "pare 1 b g [5]", "pare 1 1 b g", "pare 1 b = g", "pare 1 z", "pare z z z", "pare 1 b g min")
}

func TestPave(t *testing.T) {
	const line = "vars x|form f = x|goal g f = [1, 2]|form f = sqr(x)|goal h f = [4, 9]|box b = [-10, 10]|form f = x + 0/[-1, 1]|goal u f = [,]"
	saysBehind(t, line, "pave 0.5 99 99 1 b h", "ok 2 0 0 3 2|inner [-3e0, -2e0]|inner [2e0, 3e0]")
	saysBehind(t, line, "pave 0.5 99 99 16 b h g", "ok 1 0 0 1 1|inner [2e0]")
	saysBehind(t, line, "pave 0.5 99 99 2 b g", "ok 1 0 0 1 1|inner [1e0, 2e0]")
	// Edge and left ones, and each kind's order.
	saysBehind(t, line, "pave 5 99 99 1 b u", "ok 0 4 0 7 3|edge [-1e1, -5e0]|edge [-5e0, 0e0]|edge [0e0, 5e0]|edge [5e0, 1e1]")
	saysBehind(t, line, "pave 5 99 1 1 b u", "ok 0 0 2 1 1|left [-1e1, 0e0]|left [0e0, 1e1]")
	saysBehind(t, line, "pave 5 6 99 1 b u", "ok 0 0 4 3 2|left [-1e1, -5e0]|left [-5e0, 0e0]|left [0e0, 5e0]|left [5e0, 1e1]")
	saysBehind(t, line, "pave 5 0 99 1 b u", "ok 0 0 1 0 0|left [-1e1, 1e1]")
	// Not sure to be defined over a box that reaches down to 1, or below: [0, 2] is found ahead of [2, 4].
	const above = "vars x|form f = x/(max(x, 1) - 1)*0 + x|goal g f = [,]|box b = [0, 8]"
	saysBehind(t, above, "pave 2 9 3 1 b g", "ok 2 1 0 5 3|inner [4e0, 8e0]|inner [2e0, 4e0]|edge [0e0, 2e0]")
	saysBehind(t, above, "pave 2 9 2 1 b g", "ok 1 0 2 3 2|inner [4e0, 8e0]|left [0e0, 2e0]|left [2e0, 4e0]")
	// What is left of the upper half, [8, 9], is narrow; of the lower one, [-9, -1], it is not.
	const apart = "vars x|form f = 1/x + 0/[-1, 1]|goal g f = [-1, 0.125]|box b = [-9, 9]"
	saysBehind(t, apart, "pave 1 9 2 1 b g", "ok 0 1 2 3 2|edge [8e0, 9e0]|left [-9e0, -5e0]|left [-5e0, -1e0]")
	saysBehind(t, "vars x y|form f = x|goal g f = [1, 2]|box b = [0, 3]; [5, 7]_trv", "pave 1 9 9 1 b g", "ok 1 0 0 1 1|inner [1e0, 2e0] [5e0, 7e0]")
	saysBehind(t, "vars x y|form f = x + 0/[-1, 1]|goal g f = [,]|box b = [0, 3]; [,7]", "pave inf 9 9 1 b g|pave 1e999 9 9 1 b g", "error 210", "ok 0 1 0 1 1|edge [0e0, 3e0] [-inf, 7e0]")
	// Nothing to be found; the box stays as it is.
	saysBehind(t, line, "box b = [3, 4]_def|pave 1 9 9 1 b g|box b = [nai]|pave 1 9 9 1 b g|box b = []|pave 1 9 9 1 b g", "ok 1", "ok 0 0 0 1 1", "ok 1", "ok 0 0 0 0 0", "ok 1", "ok 0 0 0 0 0")
	saysBehind(t, line, "box b = [0, 3]_def|pave 1 9 9 1 b g|show b", "ok 1", "ok 1 0 0 1 1|inner [1e0, 2e0]", "[0e0, 3e0]_def")
	// A box without parts.
	const none = "form f = 1|goal g f = [1]|goal h f = [2]|box b ="
	saysBehind(t, none, "pave 1 9 9 1 b g|pave 1 9 9 1 b h|pave 1 0 9 1 b g|pave 1 9 9 1 b g h", "ok 1 0 0 1 1|inner", "ok 0 1 0 1 1|edge", "ok 0 0 1 0 0|left", "ok 0 1 0 1 1|edge")
	wrong(t, line, "error 200", "pave 1 9 9 1 b"+strings.Repeat(" g", 33), "pave -1 9 9 0 b"+strings.Repeat(" g", 40))
	saysBehind(t, line, "pave 1 9 9 1 b"+strings.Repeat(" g", 32), "ok 1 0 0 1 1|inner [1e0, 2e0]")
	wrong(t, line+"|box c =|box d = [1]; [1]", "error 3", "pave 1 9 9 1 c g", "pave 1 9 9 1 d g", "pave -1 99999 9999 0 d g")
	wrong(t, line+"|vars x y|form f = y|goal k f = [1]", "error 3", "pave 1 9 9 1 b k", "pave 1 9 9 1 b g k", "pave 1 9 9 1 b k g")
	wrong(t, line, "error 201", "pave -1 9 9 1 b g", "pave 1 65537 9 1 b g", "pave 1 9 4097 1 b g", "pave 1 9 9 0 b g", "pave 1 9 9 17 b g")
	wrong(t, things, "error 171", "pave 1 9 9 1 z g", "pave 1 9 9 1 b z", "pave 1 9 9 1 b g z", "pave 1 9 9 1 g b", "pave 1 9 9 1 a g", "pave 1 9 9 1 f g", "pave 1 9 9 1 b f", "pave 1 9 9 1 b a", "pave 1 9 9 1 b b", "pave -1 99999 9999 0 b z", "pave 1 9 9 1 b"+strings.Repeat(" g", 33)+" z")
	wrong(t, things, "error 210", "pave", "pave 1", "pave 1 9 9 1", "pave 1 9 9 1 b", "pave 1 9 9 b g", "pave 9 9 1 b g", "pave 1 9 9 1 9 b g", "pave b 1 9 9 1 g", "pave 1 9 9 1 [1] g", "pave 1 9 9 1 b g 1", "pave 1 -9 9 1 b g", "pave 1 9 0.5 1 b g", "pave 1 9 9 1/1 b g", "pave 1 9 9 1 z", "pave 1 9 9 1 b = g", "pave 1 9 9 1 b g floor")
}

func TestBytesAndLoad(t *testing.T) {
	saysBehind(t, things, "bytes f|form f = x^-2|bytes f|form f = fma(x,y,[1/4,])|bytes f", "56470102000001000400000100", "ok 1 0", "564701020000010"+"00c0000feff", "ok 2 1", "5647010201"+"00000000000000d03f000000000000f07f"+"020001"+"00000b000001000200")
	wrong(t, things, "error 171", "bytes a", "bytes b", "bytes g", "bytes z")
	wrong(t, things, "error 210", "bytes", "bytes f f", "bytes [1]", "bytes f g", "bytes 1", "bytes z z")
	saysBehind(t, things, "load z 5647010300000100040000"+"0200|show z|bytes z|names", "ok 1 0", "v0 + v2", "56470103000001000400000200", "a interval|b box|f form|g goal|z form")
	// The variables stay as they are; the formula's own are v0, v1, ..
	saysBehind(t, things, "load f 56470102000001000400000100|show f|form f = x|form f = v0|eval f b|load f 56470102000001000500000100|eval f b", "ok 1 0", "v0 + v1", "ok 1 0", "error 171 0", "[0e0, 4e0]_com", "ok 1 0", "[-9e0, 1e0]_com")
	saysBehind(t, things, "load z 56470100"+"0100000000000000f03f000000000000f03f0100010000|box b =|eval z b|show z", "ok 1 1", "ok 0", "[1e0]_com", "[1e0]")
	for _, row := range []struct{ hex, want string }{
		{"5647010101", "error 166 5"}, {"5647010100", "error 166 5"}, {"564701", "error 166 3"}, {"564702", "error 166 2"}, {"574701", "error 166 0"}, {"564801", "error 166 1"}, {"56470121", "error 166 3"}, {"564701200101", "error 166 4"}, {"56470101000001000200", "error 166 10"}, {"564701010000010002", "error 166 9"}, {"56470101000001000201", "error 166 10"}, {"5647010100000100020100", "error 166 9"}, {"564701010000010002000000", "error 166 11"}, {"56470101000001001600", "error 166 8"}, {"5647010100000000", "error 166 6"}, {"564701010000010404", "error 166 6"},
		{"56470100" + "01000000000000000080000000000000f03f0100010000", "error 166 6"}, {"56470101000001000c00000104", "error 166 11"},
	} {
		wrong(t, things, row.want, "load z "+row.hex, "load f "+row.hex, "load g "+row.hex)
	}
	wrong(t, things, "error 210", "load", "load z", "load 56470102000001000400000100", "load 56470102000001000400000100 z", "load z 56470102000001000400000100 0", "load z = 56470102000001000400000100", "load z f 00", "load min 00", "load z 0")
	saysBehind(t, things, "load z 56470102000001000c00000004|bytes z|load z 56470102000001000c000000fc|bytes z|show z", "ok 1 0", "56470102000001000c00000004", "ok 1 0", "56470102000001000c000000fc", "pown(v0, -1024)")
}

// A program that can be loaded, but not written as a formula: it has more lines of constants than formulas may.
func TestFormulaTooLongToShow(t *testing.T) {
	load := func(lines int) string {
		return fmt.Sprintf("load f 56470100"+"0100000000000000f03f000000000000f03f%02x%02x", lines%256, lines/256) + strings.Repeat("010000", lines)
	}
	says(t, load(256)+"|names", "ok 256 1", "f form")
	says(t, load(257)+"|show f|goal g f = [1]|show g|box b =|eval f b|names", "ok 257 1", "error 161", "ok", "error 161", "ok 0", "[1e0]_com", "b box|f form|g goal")
	if got := behind(t, load(256), "show f"); !strings.HasPrefix(got, "t0 = [1e0]; t1 = [1e0]; ") || !strings.HasSuffix(got, "t254 = [1e0]; [1e0]\n") {
		t.Error(shown(got))
	}
}
