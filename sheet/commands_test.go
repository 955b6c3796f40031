package sheet_test

import (
	"fmt"
	"math"
	"strings"
	"testing"
)

// P21.5: what each row of the table does and says.

func numbered(n int) []string {
	var out []string
	for i := range n {
		out = append(out, fmt.Sprintf("n%d", i))
	}
	return out
}

func TestVars(t *testing.T) {
	says(t, "vars|form f = 1|form f = x", "ok 0", "ok 1 1", "error 171 0")
	says(t, "vars x|form f = x|form f = y", "ok 1", "ok 1 0", "error 171 0")
	says(t, "vars y x z|form f = x*z - y|bytes f", "ok 3", "ok 2 0", "56470103000002000601000200050300"+"0000")
	says(t, "vars X x|vars x X", "ok 2", "ok 2")
	says(t, "vars x|vars|form f = x|vars y|form f = x|form f = y", "ok 1", "ok 0", "error 171 0", "ok 1", "error 171 0", "ok 1 0")
	for _, n := range []int{1, 2, 31, 32} {
		all := numbered(n)
		says(t, "vars "+strings.Join(all, " ")+"|form f = "+strings.Join(all, "+1+"), fmt.Sprint("ok ", n), fmt.Sprint("ok ", max(3*n-3, 1), " ", n-1))
	}
	for _, n := range []int{33, 34, 1000, 10000} {
		wrong(t, things, "error 171", "vars "+strings.Join(numbered(n), " "))
		wrong(t, things, "error 171", "vars "+strings.Join(repeated(n, "x"), " "))
		wrong(t, things, "error 210", "vars "+strings.Join(numbered(n), " ")+" -")
		wrong(t, things, "error 210", "vars min "+strings.Join(numbered(n), " "))
	}
	wrong(t, things, "error 171", "vars x x", "vars x y x", "vars u u v", "vars x y z z", "vars "+strings.Join(numbered(31), " ")+" n0", "vars "+strings.Join(numbered(31), " ")+" n30")
	wrong(t, things, "error 210", "vars x x -", "vars 1 x x", "vars x sqrt x", "vars x, y", "vars x;y", "vars [x]", "vars x y = 2")
	// A name may be a variable's and a thing's.
	says(t, "vars x|let x = [5]|form f = x|form x = x + 1|show x|op neg x", "ok 1", "ok", "ok 1 0", "ok 2 1", "t0 = [1e0]; x + t0", "error 171")
}

func TestLet(t *testing.T) {
	for _, row := range []struct{ rest, shown string }{
		{"[1, 2]", "[1e0, 2e0]_com"}, {"[1,2]_trv", "[1e0, 2e0]_trv"}, {"[1, 2]_DAC", "[1e0, 2e0]_dac"}, {"[]", "[empty]_trv"}, {"[ empty ]", "[empty]_trv"}, {"[nai]", "[nai]"}, {"[\tnai ]", "[nai]"}, {"[entire]", "[entire]_dac"}, {"[1,]_def", "[1e0, inf]_def"}, {"[1, 1e400]_com", "[1e0, inf]_dac"},
		{".5?5", "[0e0, 1e0]_com"}, {"3?1_def", "[2e0, 4e0]_def"}, {"-2??u", "[-2e0, inf]_dac"}, {"[-0]", "[0e0]_com"},
		{"[-1e-400, 1e-400]_def", "[" + written(-math.SmallestNonzeroFloat64) + ", " + written(math.SmallestNonzeroFloat64) + "]_def"}, {"[0.1]", "[" + written(math.Nextafter(0.1, 0)) + ", " + written(0.1) + "]_com"}, {"[1e400]", "[" + written(math.MaxFloat64) + ", inf]_dac"},
	} {
		says(t, "let z = "+row.rest+"|show z|names", "ok", row.shown, "z interval")
	}
	for _, row := range []struct{ rest, want string }{
		{"", "error 120 0"}, {"a", "error 120 0"}, {"b", "error 120 0"}, {"x", "error 120 0"}, {"1", "error 120 1"}, {"[", "error 120 1"}, {"[1, 2", "error 120 5"}, {"[2, 1]", "error 120 4"}, {"[1, 2] _com", "error 120 6"}, {"[1, 2]; [3]", "error 120 6"}, {"[1] [2]", "error 120 3"}, {"[nai]_com", "error 120 5"}, {"[]_def", "error 120 2"}, {"[1/0]", "error 120 3"}, {"[1, 1e10000]", "error 51 6"},
		{"[" + strings.Repeat("0", 4094) + "]", "ok"}, {"[" + strings.Repeat("0", 4095) + "]", "error 2 4096"}, {strings.Repeat("x", 4097), "error 2 4096"}, {strings.Repeat("x", 60000), "error 2 4096"},
	} {
		saysBehind(t, things, "let z = "+row.rest, row.want)
		if row.want != "ok" {
			wrong(t, things, row.want, "let z = "+row.rest, "let a = \t"+row.rest+" \t")
		}
	}
}

func TestBox(t *testing.T) {
	for _, row := range []struct{ rest, count, shown string }{
		{"[1, 2]", "1", "[1e0, 2e0]_com"}, {"[1, 2]; [3]", "2", "[1e0, 2e0]_com|[3e0]_com"}, {"[1];[2];[3];[1]", "4", "[1e0]_com|[2e0]_com|[3e0]_com|[1e0]_com"}, {"a;a", "2", "[1e0, 2e0]_com|[1e0, 2e0]_com"}, {" a\t; [3] ;\ta ", "3", "[1e0, 2e0]_com|[3e0]_com|[1e0, 2e0]_com"},
		{"[nai];[];[,]_trv", "3", "[nai]|[empty]_trv|[entire]_trv"}, {"[\t1 , 2 ]_def ; -1?0;+3?", "3", "[1e0, 2e0]_def|[-1e0]_com|[2.5e0, 3.5e0]_com"}, {"[ nai\t]", "1", "[nai]"},
	} {
		saysBehind(t, things, "box z = "+row.rest+"|show z|names", "ok "+row.count, row.shown, "a interval|b box|f form|g goal|z box")
	}
	saysBehind(t, things, "box z =|show z|print 0 z|print 5 z|names", "ok 0", "a interval|b box|f form|g goal|z box")
	for _, n := range []int{31, 32, 33, 100, 9000} {
		saysBehind(t, things, "box z = "+strings.Join(repeated(n, "a"), ";")+"|fold sum 1 z", fmt.Sprint("ok ", n), sum(n))
	}
	for _, row := range []struct{ rest, want string }{
		{";", "error 210"}, {"[1];", "error 210"}, {";[1]", "error 210"}, {"[1];;[1]", "error 210"}, {"[1]; \t ;[1]", "error 210"}, {"a b", "error 210"}, {"a a", "error 210"}, {"(1)", "error 210"}, {".5?", "error 210"}, {"[1], [2]", "error 120 3"}, {"[1] [2]", "error 120 3"}, {"1", "error 120 1"}, {"[1;2]", "error 120 2"}, {"1 2", "error 120 1"},
		{"z", "error 171"}, {"b", "error 171"}, {"f", "error 171"}, {"g", "error 171"}, {"a; z; a", "error 171"}, {"[2, 1]", "error 120 4"}, {"a; \t [1, x] ;a", "error 120 4"}, {"[1, 2];\t[1]_com_", "error 120 7"}, {"[1e10000]", "error 51 3"}, {"[" + strings.Repeat("1", 4096) + ";a", "error 2 4096"},
		// The first piece that is none, whatever is wrong with those behind it.
		{"z; ;[", "error 171"}, {"[; z;", "error 120 1"}, {".; z;[", "error 210"}, {"a;[2,1];-z-;z", "error 120 3"}, {"a;z;[2,1];.", "error 171"}, {"a;;[2,1];z", "error 210"},
	} {
		wrong(t, things, row.want, "box z = "+row.rest, "box b = "+row.rest, "box a = "+row.rest)
	}
}

// sum tells the sum of n intervals from 1 to 2, as it is written.
func sum(n int) string {
	digits := func(n int) string {
		all := fmt.Sprint(n)
		text := strings.TrimRight(all[:1]+"."+all[1:], "0")
		return strings.TrimSuffix(text, ".") + fmt.Sprint("e", len(all)-1)
	}
	return "[" + digits(n) + ", " + digits(2*n) + "]"
}

func TestForm(t *testing.T) {
	for _, row := range []struct{ rest, want, printed string }{
		{"x", "ok 1 0", "id(x)"}, {"x*y + 1", "ok 3 1", "t0 = x * y; t1 = [1e0]; t0 + t1"}, {"s = x - y; s*s/[1, 2]", "ok 4 1", "t0 = x - y; t1 = t0 * t0; t2 = [1e0, 2e0]; t1 / t2"}, {"-x^-2", "ok 2 0", "t0 = pown(x, -2); -t0"}, {"[1]+1", "ok 3 2", "t0 = [1e0]; t1 = [1e0]; t0 + t1"}, {"fma(x,\ty,0.5)", "ok 2 1", "t0 = [5e-1]; fma(x, y, t0)"},
	} {
		saysBehind(t, things, "form z = "+row.rest+"|show z|names", row.want, row.printed, "a interval|b box|f form|g goal|z form")
	}
	for _, row := range []struct{ rest, want string }{
		{"", "error 170 0"}, {"x +", "error 170 3"}, {"x y", "error 170 2"}, {"z", "error 171 0"}, {"a", "error 171 0"}, {"f", "error 171 0"}, {"x = y; x", "error 171 0"}, {"x*y*u", "error 171 4"}, {"s = 1; s = 2; s", "error 171 7"}, {"x^1025", "error 165 2"}, {"x ^ 01", "error 170 4"}, {"x $", "error 170 2"}, {"[2, 1]", "error 170 0"}, {"x;", "error 170 1"}, {"x == y", "error 171 0"}, {"u == y", "error 170 3"},
		{strings.Repeat("(", 201) + "x" + strings.Repeat(")", 201), "error 172 200"}, {strings.Repeat("1+", 256) + "1", "error 161 513"}, {"x" + strings.Repeat("+x", 1025), "error 162 2051"},
	} {
		wrong(t, things, row.want, "form z = "+row.rest, "form f = \t "+row.rest+"\t ")
	}
	saysBehind(t, things, "form z = "+strings.Repeat("1+", 255)+"1|form z = x"+strings.Repeat("+x", 1024), "ok 511 256", "ok 1024 0")
}

func TestGoal(t *testing.T) {
	saysBehind(t, things, "goal z f = [1, 2]|show z|names", "ok", "in [1e0, 2e0]|x + y", "a interval|b box|f form|g goal|z goal")
	for _, row := range []struct{ rest, shown string }{{"[]", "[empty]"}, {"[,]", "[entire]"}, {"3?1", "[2e0, 4e0]"}, {".5?5", "[0e0, 1e0]"}, {"[5,]", "[5e0, inf]"}, {"[1e400]", "[" + written(math.MaxFloat64) + ", inf]"}} {
		saysBehind(t, things, "goal z f = "+row.rest+"|show z", "ok", "in "+row.shown+"|x + y")
	}
	for _, row := range []struct{ rest, want string }{{"", "error 120 0"}, {"a", "error 120 0"}, {"[1]_com", "error 120 3"}, {"[nai]", "error 120 1"}, {"[2, 1]", "error 120 4"}, {"[1] ;", "error 120 3"}, {"[1e10000]", "error 51 3"}, {strings.Repeat("1", 4097), "error 2 4096"}} {
		wrong(t, things, row.want, "goal z f = "+row.rest, "goal g f =  "+row.rest+" ")
	}
	for _, name := range []string{"a", "b", "g", "z", "x", "c"} {
		wrong(t, things, "error 171", "goal z "+name+" = [1]", "goal g "+name+" = [2, 1]", "goal z "+name+" =")
	}
	// A goal keeps its formula, whatever becomes of the name.
	saysBehind(t, things, "form f = x - y|show g|drop f|show g|vars q|show g|show b|pare 9 b g", "ok 1 0|in [5e0]|x + y", "ok|in [5e0]|x + y", "ok 1|in [5e0]|x + y", "[0e0, 4e0]_com|[3e0, 9e0]_com", "ok 2|[0e0, 2e0]|[3e0, 5e0]")
}

func TestShow(t *testing.T) {
	saysBehind(t, things, "show a", "[1e0, 2e0]_com")
	saysBehind(t, things, "show b", "[0e0, 4e0]_com|[3e0, 9e0]_com")
	saysBehind(t, things, "show f", "x + y")
	saysBehind(t, things, "show g", "in [5e0]|x + y")
	wrong(t, things, "error 171", "show z", "show x", "show y", "show A")
	wrong(t, things, "error 210", "show", "show a b", "show a a", "show [1]", "show 1", "show z z")
	// A name of variables that is like those that are made for lines.
	says(t, "vars t0 t_1|form f = t0*t_1 + 1|show f", "ok 2", "ok 3 1", "t__0 = t0 * t_1; t__1 = [1e0]; t__0 + t__1")
}

func TestPrint(t *testing.T) {
	saysBehind(t, things, "print 3 a|print 1 b|print 2 b", "[1.00e0, 2.00e0]_com", "[0e0, 4e0]_com|[3e0, 9e0]_com", "[0.0e0, 4.0e0]_com|[3.0e0, 9.0e0]_com")
	says(t, "let a = [0.1, 1/3]_def|print 1 a|print 3 a|box b = a; [nai]; []; [,1]; [0.25]|print 1 b", "ok", "[9e-2, 4e-1]_def", "[9.99e-2, 3.34e-1]_def", "ok 5", "[9e-2, 4e-1]_def|[nai]|[empty]_trv|[-inf, 1e0]_dac|[2e-1, 3e-1]_com")
	says(t, "let a = [nai]|print 1 a|print 0 a|box b = []; [1]|print 0 b|print 1101 b|print 1100 a", "ok", "[nai]", "error 1", "ok 2", "error 1", "error 1", "[nai]")
	says(t, "box b =|print 0 b|print 1 b|print 999999999 b|names", "ok 0", "b box")
	wrong(t, things, "error 1", "print 0 a", "print 0 b", "print 1101 a", "print 1101 b")
	wrong(t, things, "error 171", "print 1 f", "print 1 g", "print 1 z", "print 0 z", "print 9999 x")
	wrong(t, things, "error 210", "print", "print 1", "print a", "print a 1", "print 1 a a", "print 1 1", "print 1 [1]", "print -1 a", "print 1 a b")
}

func TestOp(t *testing.T) {
	for _, row := range []struct{ line, want string }{
		{"neg [1,2]", "[-2e0, -1e0]_com"}, {"id [1,2]", "[1e0, 2e0]_com"}, {"sqr [-1,2]", "[0e0, 4e0]_com"}, {"sqrt [4,9]", "[2e0, 3e0]_com"}, {"sqrt [-1,4]", "[0e0, 2e0]_trv"}, {"recip [2,4]", "[2.5e-1, 5e-1]_com"}, {"abs [-3,2]", "[0e0, 3e0]_com"}, {"sign [-3,2]", "[-1e0, 1e0]_def"},
		{"floor [1.5,2.5]", "[1e0, 2e0]_def"}, {"ceil [1.5,2.5]", "[2e0, 3e0]_def"}, {"trunc [-1.5,2.5]", "[-1e0, 2e0]_def"}, {"even [0.5,2.5]", "[0e0, 2e0]_def"}, {"away [0.5,2.5]", "[1e0, 3e0]_def"}, {"away [0.5]", "[1e0]_com"}, {"even [0.5]", "[0e0]_com"}, {"trunc [-1.5]", "[-1e0]_com"}, {"ceil [0.5]", "[1e0]_com"}, {"floor [0.5]", "[0e0]_com"}, {"sign [-7]", "[-1e0]_com"},
		{"add [1,2] [10,20]", "[1.1e1, 2.2e1]_com"}, {"sub [1,2] [10,20]", "[-1.9e1, -8e0]_com"}, {"mul [1,2] [10,20]", "[1e1, 4e1]_com"}, {"div [1,2] [10,16]", "[6.25e-2, " + written(0.2) + "]_com"}, {"min [1,9] [2,3]", "[1e0, 3e0]_com"}, {"max [1,9] [2,3]", "[2e0, 9e0]_com"}, {"fma [1,2] [10,20] [100]", "[1.1e2, 1.4e2]_com"},
		{"add [1] [nai]", "[nai]"}, {"fma [1] [2]_def [3]_dac", "[5e0]_def"}, {"add [] [1]", "[empty]_trv"}, {"mul [,] [0]", "[0e0]_dac"}, {"div a a", "[5e-1, 2e0]_com"}, {"sub a [1,2]", "[-1e0, 1e0]_com"},
	} {
		saysBehind(t, things, "op "+row.line, row.want)
	}
	arguments := map[string]int{"neg": 1, "add": 2, "sub": 2, "mul": 2, "div": 2, "id": 1, "sqr": 1, "sqrt": 1, "recip": 1, "fma": 3, "abs": 1, "min": 2, "max": 2, "sign": 1, "floor": 1, "ceil": 1, "trunc": 1, "even": 1, "away": 1}
	for word, args := range arguments {
		for n := range 6 {
			if n != args {
				wrong(t, things, "error 210", "op "+word+strings.Repeat(" a", n), "op "+word+strings.Repeat(" [1]", n), "op "+word+strings.Repeat(" z", n), "op "+word+strings.Repeat(" [", n))
			}
		}
		if got := behind(t, things, "op "+word+strings.Repeat(" [1]", args)); !strings.HasSuffix(got, "_com\n") {
			t.Error(word, got)
		}
	}
	wrong(t, things, "error 210", "op", "op a", "op a a", "op pown [1]", "op pown 2 [1]", "op const", "op plus a a", "op Add a a", "op ADD a a", "op + a a", "op addd a a", "op ad a a", "op 4 a a", "op = a a", "op [1] neg", "op roundeven a", "op z z", "op pown z", "op sum [")
}

func TestPown(t *testing.T) {
	saysBehind(t, things, "pown 2 a|pown -1 a|pown 0 a", "[1e0, 4e0]_com", "[5e-1, 1e0]_com", "[1e0]_com")
	wrong(t, things, "error 210", "pown", "pown 2", "pown a", "pown a 2", "pown 2 a a", "pown 2 2 a", "pown -- a", "pown [2] a", "pown 2 2 2", "pown 2.0 a", "pown x a")
}

// Backward: c, x, then the others in their order.
func TestBack(t *testing.T) {
	for _, row := range []struct{ line, want string }{
		{"neg 0 [1,2] [-9,9]", "[-2e0, -1e0]_trv"}, {"id 0 [1,2] [-9,1]", "[1e0]_trv"}, {"sqr 0 [4,9] [0,9]", "[2e0, 3e0]_trv"}, {"sqrt 0 [2,3] [0,99]", "[4e0, 9e0]_trv"}, {"recip 0 [2,4] [-9,9]", "[2.5e-1, 5e-1]_trv"}, {"abs 0 [2,3] [0,9]", "[2e0, 3e0]_trv"}, {"sign 0 [1] [-9,9]", "[0e0, 9e0]_trv"}, {"floor 0 [1] [-9,9]", "[1e0, 2e0]_trv"}, {"ceil 0 [1] [-9,9]", "[0e0, 1e0]_trv"}, {"trunc 0 [0] [-9,9]", "[-1e0, 1e0]_trv"}, {"even 0 [2] [-9,9]", "[1.5e0, 2.5e0]_trv"}, {"away 0 [2] [-9,9]", "[1.5e0, 2.5e0]_trv"}, {"away 0 [1] [0.5]", "[5e-1]_trv"}, {"even 0 [1] [0.5]", "[empty]_trv"},
		{"add 0 [5] [0,4] [3,9]", "[0e0, 2e0]_trv"}, {"add 1 [5] [3,9] [0,4]", "[3e0, 5e0]_trv"}, {"sub 0 [5] [0,9] [1,2]", "[6e0, 7e0]_trv"}, {"sub 1 [5] [-9,9] [1,2]", "[-4e0, -3e0]_trv"}, {"mul 0 [4] [0,8] [1,2]", "[2e0, 4e0]_trv"}, {"mul 1 [4] [0,3] [1,2]", "[2e0, 3e0]_trv"}, {"div 0 [4] [0,99] [1,2]", "[4e0, 8e0]_trv"}, {"div 1 [4] [0,99] [1,2]", "[2.5e-1, 5e-1]_trv"}, {"min 0 [3] [0,9] [4,5]", "[3e0]_trv"}, {"max 1 [3] [0,9] [1,2]", "[3e0]_trv"},
		{"fma 0 [10] [0,9] [2] [4]", "[3e0]_trv"}, {"fma 1 [10] [0,9] [2] [4]", "[3e0]_trv"}, {"fma 2 [10] [0,99] [2] [4]", "[2e0]_trv"}, {"fma 0 [10] [0,9] [4] [2]", "[2e0]_trv"},
		{"add 2 [5] [0,4] [3,9]", "[nai]"}, {"neg 1 [5] [0,4]", "[nai]"}, {"fma 3 [5] [0,4] [1] [1]", "[nai]"}, {"add 0 [nai] [0,4] [3,9]", "[nai]"}, {"add 0 [5] [nai] [3,9]", "[nai]"}, {"add 0 [5] [0,4] [nai]", "[nai]"}, {"add 0 [] [0,4] [3,9]", "[empty]_trv"}, {"add 0 a a [0]", "[1e0, 2e0]_trv"}, {"sub 1 [0] a a", "[1e0, 2e0]_trv"},
	} {
		saysBehind(t, things, "back "+row.line, row.want)
	}
	arguments := map[string]int{"neg": 1, "add": 2, "sub": 2, "mul": 2, "div": 2, "id": 1, "sqr": 1, "sqrt": 1, "recip": 1, "fma": 3, "abs": 1, "min": 2, "max": 2, "sign": 1, "floor": 1, "ceil": 1, "trunc": 1, "even": 1, "away": 1}
	for word, args := range arguments {
		for n := range 7 {
			if n != args+1 {
				wrong(t, things, "error 210", "back "+word+" 0"+strings.Repeat(" a", n), "back "+word+" 7"+strings.Repeat(" [", n))
			}
		}
		for place := range 5 {
			got := behind(t, things, fmt.Sprintf("back %s %d [1] [-9,9]%s", word, place, strings.Repeat(" [1]", args-1)))
			if nai := got == "[nai]\n"; nai != (place >= args) {
				t.Error(word, place, got)
			}
		}
	}
	wrong(t, things, "error 210", "back", "back add", "back add 0", "back 0 add a a a", "back add a a a", "back add a 0 a a", "back add -1 a a a", "back add 00 a a a", "back pown 0 a a", "back pown 2 0 a a", "back const 0 a a", "back Neg 0 a a", "back z z z z", "back neg 0 [1] , [2]")
	wrong(t, things, "error 171", "back add 0 z a a", "back add 0 a z a", "back add 0 a a z", "back add 9 a a b", "back add 9 [ z a")
	wrong(t, things, "error 120 1", "back add 0 [ a a", "back add 0 a [ a", "back add 0 a a [", "back add 9 a a [", "back add 9 a [ [2,1]")
}
