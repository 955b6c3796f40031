package sheet_test

import (
	"fmt"
	"strings"
	"testing"
)

// P21.2: the forms of words, at their edges.

// things is a sheet that keeps one thing of each kind, and leaves z and y2 free.
const things = "vars x y|let a = [1, 2]|box b = [0, 4]; [3, 9]|form f = x + y|goal g f = [5]"

func namesThatAre() []string {
	return []string{"x", "X", "a", "z", "Z", "q", "x1", "x_", "a__9", "aZ09_", "e1", "inf", "empty", "entire", "nai", "com", "Sqr", "SQRT", "id_", "sqrtt", "neg", "add", "sum", "ok", "vars", "names", "pave", "v0", "t0",
		strings.Repeat("a", 63), strings.Repeat("a", 64), "a" + strings.Repeat("_", 63), "Z" + strings.Repeat("9", 63)}
}

func namesThatAreNot() []string {
	words := strings.Fields("id sqr sqrt recip fma pown abs min max sign floor ceil trunc even away")
	return append(words, "1", "1a", "0", "_", "_a", "a.b", "a-b", "-a", "a+", "(a)", "a;", "a,b", "[1]", "[", "$", "a$", "a=", "=a", "a=b", "==", "\x00", "a\x00", "\u00e4", "a\u00e4", "\xff", "a\xff", "a\u200b", "\u212a", "a\u0660", "a\r", "a#", "@", "`a", "a[", "{", "a/", "a:",
		strings.Repeat("a", 65), strings.Repeat("a", 66), strings.Repeat("a", 5000))
}

// Wherever a name stands.
func TestNames(t *testing.T) {
	for _, name := range namesThatAre() {
		says(t, "vars "+name+"|form f = "+name, "ok 1", "ok 1 0")
		says(t, "let "+name+" = [1]|show "+name+"|op neg "+name, "ok", "[1e0]_com", "[-1e0]_com")
		says(t, "box "+name+" = [1]|fold sum 1 "+name, "ok 1", "[1e0]")
		says(t, "form "+name+" = 1|bytes "+name, "ok 1 1", "56470100"+"0100000000000000f03f000000000000f03f0100010000")
		says(t, "form f = 1|goal "+name+" f = [2]|show "+name, "ok 1 1", "ok", "in [2e0]", "[1e0]")
		says(t, "load "+name+" 564701010000010002"+"0000|show "+name, "ok 1 0", "id(v0)")
		says(t, "let "+name+" = [1]|names|drop "+name+"|names", "ok", name+" interval", "ok")
	}
	for _, name := range namesThatAreNot() {
		wrong(t, things, "error 210", "vars "+name, "vars x "+name, "vars "+name+" y", "let "+name+" = [1]", "box "+name+" = [1]", "form "+name+" = 1", "goal "+name+" f = [1]", "goal z "+name+" = [1]",
			"show "+name, "print 1 "+name, "eval "+name+" b", "eval f "+name, "trace "+name+" b", "trace f "+name, "slopes "+name+" b", "slopes f "+name, "mean "+name+" b", "mean f "+name, "newton "+name+" b 0", "newton f "+name+" 0",
			"fold sum 1 "+name, "dot 1 b "+name, "dot 1 "+name+" b", "pare 1 "+name+" g", "pare 1 b "+name, "pare 1 b g "+name, "pare 1 b "+name+" g", "pave 1 9 9 1 "+name+" g", "pave 1 9 9 1 b "+name, "pave 1 9 9 1 b g "+name, "bytes "+name, "load "+name+" 00", "drop "+name)
	}
}

// numbersAt: a line of each place where a number stands, and what it says with some that do; whole: below 0 too.
func numbersAt() []struct{ line, zero, one, most string } {
	const left = "[0e0, 4e0] [3e0, 9e0]"
	return []struct{ line, zero, one, most string }{
		{"print # a", "error 1", "[1e0, 2e0]_com", "error 1"},
		{"back sub # [5] [-9,9] [1,2]", "[6e0, 7e0]_trv", "[-4e0, -3e0]_trv", "[nai]"},
		{"newton f b #", "[empty]", "[empty]", "error 1"},
		{"fold sum # b", "error 1", "[3e0, 1.3e1]", "error 1"},
		{"dot # b b", "error 1", "[9e0, 9.7e1]", "error 1"},
		{"pare # b g", "ok 0|[0e0, 4e0]|[3e0, 9e0]", "ok 1|[0e0, 2e0]|[3e0, 5e0]", "error 1"},
		{"pave 9 # 9 1 b g", "ok 0 0 1 0 0|left " + left, "ok 0 1 0 1 1|edge [0e0, 2e0] [3e0, 5e0]", "error 201"},
		{"pave 9 9 # 1 b g", "ok 0 0 1 0 0|left " + left, "ok 0 1 0 1 1|edge [0e0, 2e0] [3e0, 5e0]", "error 201"},
		{"pave 9 9 9 # b g", "error 201", "ok 0 1 0 1 1|edge [0e0, 2e0] [3e0, 5e0]", "error 201"},
		{"pown # [3]", "[1e0]_com", "[3e0]_com", "[entire]_trv"},
	}
}

func TestNumbers(t *testing.T) {
	for _, row := range numbersAt() {
		with := func(n string) string { return strings.Replace(row.line, "#", n, 1) }
		saysBehind(t, things, with("0"), row.zero)
		saysBehind(t, things, with("1"), row.one)
		for _, n := range []string{"999999999", "100000000", "123456789"} {
			saysBehind(t, things, with(n), row.most)
		}
		strays := []string{"00", "01", "007", "000000000", "000000001", "1000000000", "0999999999", "9999999999", "4294967297", "18446744073709551617", "99999999999999999999999", "+1", "+0", "--1", "-", "+", "1-", "1.", "1.0", ".1", "1e0", "0x1", "1_0", "1,0", "0b1", "1a", "a1", "a", "one", "\u0661", "\uff11", "1\r", "1\x00", "[1]", "#", "=", "-00", "-01", "-1000000000", "-9999999999", "-a"}
		if !strings.HasPrefix(row.line, "pown") {
			strays = append(strays, "-0", "-1", "-9", "-999999999")
		}
		for _, stray := range strays {
			wrong(t, things, "error 210", with(stray))
		}
	}
}

// Numbers told from one another, digit by digit.
func TestNumbersByDigits(t *testing.T) {
	for _, n := range []int{1, 2, 9, 10, 12, 21, 99, 100, 120, 1099, 1100} {
		digits := ""
		if n > 1 {
			digits = "." + strings.Repeat("0", n-1)
		}
		says(t, fmt.Sprintf("let a = [1, 2]|print %d a", n), "ok", "[1"+digits+"e0, 2"+digits+"e0]_com")
	}
	says(t, "let a = [1]|print 1101 a|print 11000 a|print 2000 a", "ok", "error 1", "error 1", "error 1")
	for _, n := range []int{2, 3, 10, 15, 16} {
		saysBehind(t, things, fmt.Sprintf("fold sum %d b", n), "[3e0, 1.3e1]")
		saysBehind(t, things, fmt.Sprintf("dot %d b b", n), "[9e0, 9.7e1]")
		saysBehind(t, things, fmt.Sprintf("pave 9 9 9 %d b g", n), "ok 0 1 0 1 1|edge [0e0, 2e0] [3e0, 5e0]")
	}
	for _, n := range []int{17, 18, 160} {
		saysBehind(t, things, fmt.Sprintf("fold sum %d b", n), "error 1")
		saysBehind(t, things, fmt.Sprintf("dot %d b b", n), "error 1")
		saysBehind(t, things, fmt.Sprintf("pave 9 9 9 %d b g", n), "error 201")
	}
	for _, n := range []int{2, 9, 4095, 4096} {
		saysBehind(t, things, fmt.Sprintf("pare %d b g", n), "ok 2|[0e0, 2e0]|[3e0, 5e0]")
		saysBehind(t, things, fmt.Sprintf("pave 9 9 %d 1 b g", n), "ok 0 1 0 1 1|edge [0e0, 2e0] [3e0, 5e0]")
	}
	saysBehind(t, things, "pare 4097 b g", "error 1")
	saysBehind(t, things, "pave 9 9 4097 1 b g", "error 201")
	saysBehind(t, things, "pave 9 65536 9 1 b g", "ok 0 1 0 1 1|edge [0e0, 2e0] [3e0, 5e0]")
	saysBehind(t, things, "pave 9 65537 9 1 b g", "error 201")
}

// Powers: also below 0.
func TestWholes(t *testing.T) {
	for _, row := range []struct{ n, x, want string }{
		{"-0", "[0]", "[1e0]_com"}, {"0", "[]", "[empty]_trv"}, {"-1", "[2]", "[5e-1]_com"}, {"-2", "[2]", "[2.5e-1]_com"}, {"-1", "[0,2]", "[5e-1, inf]_trv"}, {"2", "[-1,2]", "[0e0, 4e0]_com"}, {"3", "[-1,2]", "[-1e0, 8e0]_com"}, {"10", "[2]", "[1.024e3]_com"},
		{"-10", "[0.5]", "[1.024e3]_com"}, {"1024", "[1]", "[1e0]_com"}, {"-1024", "[-1]", "[1e0]_com"}, {"1025", "[1]", "[entire]_trv"}, {"-1025", "[1]", "[entire]_trv"}, {"-999999999", "[1]", "[entire]_trv"}, {"-999999999", "[]", "[empty]_trv"}, {"2", "[nai]", "[nai]"}, {"9999", "[nai]", "[nai]"},
		{"2", "[3]_def", "[9e0]_def"}, {"2", "[,3]", "[0e0, inf]_dac"},
	} {
		says(t, "pown "+row.n+" "+row.x, row.want)
		says(t, "let a = "+row.x+"|pown "+row.n+" a", "ok", row.want)
	}
}

// A width is any numeral; its number is rounded up. The goal can't be told to be met all over a box.
func TestWidths(t *testing.T) {
	const unsure = "vars x|form f = x + 0/[-1, 1]|goal g f = [entire]|box b = [0, 1]|box e = [1, 0x1.0000000000001p0]"
	const once, twice = "ok 0 1 0 1 1|edge [0e0, 1e0]", "ok 0 2 0 3 2|edge [0e0, 5e-1]|edge [5e-1, 1e0]"
	for _, w := range []string{"1", "1.", "+1", "0x1p0", "0X.8P1", "1e0", "10E-1", "3/3", "1e400", "1.5", "2", "999999999999", "01", "1e9999", "1/1", "0x1p9999"} {
		saysBehind(t, unsure, "pave "+w+" 9 9 1 b g", once)
	}
	for _, w := range []string{"0.5", ".5", "1/2", "0x1p-1", "5e-1", "+0.5", "0.99", "0.99999999999999988"} {
		saysBehind(t, unsure, "pave "+w+" 9 9 1 b g", twice)
	}
	for _, w := range []string{"0", "-0", "0/7", "1e-400", "1e-9999", "-1e-400", "-1/99999999999", "0x1p-9999", "-0x1p-1075"} {
		want := "ok 0 1 0 1 1|edge [1e0, 1.0000000000000002220446049250313080847263336181640625e0]"
		if strings.HasPrefix(w, "-1/") {
			want = "error 201"
		}
		saysBehind(t, unsure, "pave "+w+" 9 9 1 e g", want)
	}
	for _, w := range []string{"-1", "-0.5", "-1e400", "-0x1p-1074", "-1e-300"} {
		wrong(t, unsure, "error 201", "pave "+w+" 9 9 1 b g")
	}
	for _, w := range []string{"", ".", "-", "+", "x", "b", "inf", "-inf", "nan", "1e", "1e10000", "1e-10000", "0x1p10000", "1/0", "0/0", "1/", "/2", "1//2", "0x1", "0x", "1,5", "1_0", "--1", "1.5.", "[1]", "1?", "1\r", "\u0661", "=", strings.Repeat("1", 4097), strings.Repeat("x", 4097)} {
		wrong(t, unsure, "error 210", "pave "+w+" 9 9 1 b g")
	}
	saysBehind(t, unsure, "pave "+strings.Repeat("0", 4095)+"1 9 9 1 b g", once)
	// Between two numbers: that above it is taken.
	const wide = "vars x|form f = x + 0/[-1, 1]|goal g f = [entire]|box b = [0, 9007199254740994]"
	saysBehind(t, wide, "pave 9007199254740993 1 9 1 b g", "ok 0 1 0 1 1|edge [0e0, 9.007199254740994e15]")
	saysBehind(t, wide, "pave 9007199254740992.000000000000000000000000001 1 9 1 b g", "ok 0 1 0 1 1|edge [0e0, 9.007199254740994e15]")
	saysBehind(t, wide, "pave 9007199254740992 1 9 1 b g", "ok 0 0 2 1 1|left [0e0, 4.503599627370497e15]|left [4.503599627370497e15, 9.007199254740994e15]")
}

// Pairs of digits and small letters, the higher half of a byte first.
func TestPairs(t *testing.T) {
	says(t, "load f 564701010100000000000000f03f000000000000f03f02000100000400000100", "ok 2 1")
	says(t, "load f 00", "error 166 0")
	says(t, "load f 65", "error 166 0")
	says(t, "load f 56", "error 166 1")
	says(t, "load f 5674", "error 166 1")
	says(t, "load f 5647", "error 166 2")
	says(t, "load f 564701", "error 166 3")
	says(t, "load f 56470121", "error 166 3")
	says(t, "load f 564701ff", "error 166 3")
	says(t, "load f 56470120", "error 166 4")
	says(t, "load f "+strings.Repeat("0123456789abcdef", 2000), "error 166 0")
	says(t, "load f 564701200000010002"+"1f00|show f", "ok 1 0", "id(v31)")
	says(t, "load f 5647010001"+"009abcdef012345640"+"9abcdef012345640"+"0100010000|show f|bytes f", "ok 1 1", "[8.8813656060711224426995613612234592437744140625e1]", "56470100010"+"09abcdef0123456409abcdef0123456400100010000")
	for _, stray := range []string{"5", "564", "56470", "5647010101000000000000000f03f", "0x56", "0X56", "5g", "g5", "56 47", "5 6", "56=", "+5", "-5", "5_", "_5", "\u0665\u0666", "564701\r", "#5", "zz", "F0", "fF", "Ff", "564701010100000000000000F03f000000000000f03f02000100000400000100", "564701010100000000000000f03f000000000000f03F02000100000400000100", "56470A", "a", "x", "[1]"} {
		wrong(t, things, "error 210", "load f "+stray, "load z "+stray)
	}
	wrong(t, things, "error 210", "load f", "load", "load f ")
	for c := range 256 {
		digit := string([]byte{byte(c)})
		if !strings.Contains("0123456789abcdef\n \t", digit) {
			saysText(t, "load f 56470"+digit+"\nload f 5647"+digit+"0\nload f 56"+digit+digit, told("error 210", "error 210", "error 210"))
		}
	}
}

// Items: names, and literals that begin with [, a sign or a digit.
func TestItems(t *testing.T) {
	for _, row := range []struct{ item, want string }{
		{"a", "[-2e0, -1e0]_com"}, {"[1,2]", "[-2e0, -1e0]_com"}, {"[]", "[empty]_trv"}, {"[,]", "[entire]_dac"}, {"[nai]", "[nai]"}, {"[1/4,0x1p0]", "[-1e0, -2.5e-1]_com"}, {"[1,2]_def", "[-2e0, -1e0]_def"}, {"[1]_TRV", "[-1e0]_trv"},
		{"-1?0", "[1e0]_com"}, {"+1?0", "[-1e0]_com"}, {"-.5?5", "[0e0, 1e0]_com"}, {"+.5?5", "[-1e0, 0e0]_com"}, {"-1??", "[entire]_dac"}, {"0?0", "[0e0]_com"}, {"1?0_dac", "[-1e0]_dac"}, {"2?", "[-2.5e0, -1.5e0]_com"}, {"3?u", "[-3.5e0, -3e0]_com"}, {"4?1d", "[-4e0, -3e0]_com"}, {"5?1e1", "[-6e1, -4e1]_com"}, {"6.5?5", "[-7e0, -6e0]_com"},
		{"7?0", "[-7e0]_com"}, {"8?0", "[-8e0]_com"}, {"9?0", "[-9e0]_com"},
	} {
		saysBehind(t, things, "op neg "+row.item, row.want)
		saysBehind(t, things, "let z = [7]|box y2 = "+row.item+"|let a = [nai]|op neg a", "ok", "ok 1", "ok", "[nai]")
		saysBehind(t, things, "let a = [1, 2]|box y2 = z;"+row.item, "ok", "error 171")
	}
	// A word that begins so is one, what it says is told by its reader.
	for _, row := range []struct{ item, want string }{
		{"-", "error 120 1"}, {"+", "error 120 1"}, {"1", "error 120 1"}, {"0", "error 120 1"}, {"[", "error 120 1"}, {"[1", "error 120 2"}, {"[2,1]", "error 120 3"}, {"[1]x", "error 120 3"}, {"[1]_co", "error 120 6"}, {"[nai]_trv", "error 120 5"}, {"[1,inf]_com", "error 120 7"}, {"[1/0]", "error 120 3"}, {"[1e10000]", "error 51 3"},
		{"-a", "error 120 1"}, {"+1", "error 120 2"}, {"12345678901", "error 120 11"}, {"9?5?", "error 120 3"}, {"[1;2]", "error 120 2"}, {"[\u00e9]", "error 120 1"}, {"[" + strings.Repeat("1", 4096), "error 2 4096"}, {"1" + strings.Repeat("x", 4096), "error 2 4096"},
	} {
		wrong(t, things, row.want, "op neg "+row.item, "op add [1] "+row.item, "op add "+row.item+" a", "op add "+row.item+" [", "pown 2 "+row.item, "back neg 0 "+row.item+" a", "back neg 0 a "+row.item, "back add 1 a a "+row.item)
		if !strings.Contains(row.item, ";") {
			wrong(t, things, row.want, "box z = "+row.item, "box b = [1]; "+row.item, "box z = "+row.item+"; x;")
		}
	}
	// Names that stand for no interval, or for nothing.
	for _, name := range []string{"b", "f", "g", "z", "x", "e1", "inf", "empty", "entire", "nai", "com", "A", strings.Repeat("a", 64)} {
		wrong(t, things, "error 171", "op neg "+name, "op add a "+name, "op add "+name+" a", "pown 2 "+name, "back neg 0 "+name+" a", "back neg 0 a "+name, "back fma 2 a a a "+name, "box z = "+name, "box b = a; "+name, "box b = "+name+"; [")
	}
	// And what is neither.
	for _, stray := range []string{".5?5", ".", "?", "]", "(1)", "_", "_a", ",", "/2", "*", "#1", "{1}", "\u22121?", "\u0661?", "\xff", "\x00", "=", "\u00e4", "sqr", "min", "away", "pown", "a.b", "a-b", "a\r", "\r", strings.Repeat("a", 65)} {
		wrong(t, things, "error 210", "op neg "+stray, "op add a "+stray, "op add "+stray+" a", "op add z "+stray, "op add [2,1] "+stray, "pown 2 "+stray, "back neg 0 "+stray+" a", "back neg 0 a "+stray, "back fma 2 a a a "+stray, "box z = "+stray, "box b = a; "+stray, "box b = "+stray+"; [")
	}
}

// What stands behind the first =, which is a word of its own.
func TestRests(t *testing.T) {
	for _, row := range []struct{ line, ok, none string }{
		{"let z = #[1]", "ok", "error 120 0"}, {"box z = #[1]", "ok 1", "ok 0"}, {"form z = #x", "ok 1 0", "error 170 0"}, {"goal z f = #[1]", "ok", "error 120 0"},
	} {
		head, rest, _ := strings.Cut(row.line, "#")
		bare := strings.TrimSuffix(head, " = ")
		saysBehind(t, things, head+rest, row.ok)
		saysBehind(t, things, bare+" =\t"+rest+"\t", row.ok)
		saysBehind(t, things, bare+"\t= \t "+rest+" \t ", row.ok)
		saysBehind(t, things, bare+" =", row.none)
		saysBehind(t, things, bare+" = ", row.none)
		saysBehind(t, things, bare+" =\t \t", row.none)
		wrong(t, things, "error 210", bare, bare+" ", bare+" "+rest, bare+"="+rest, bare+"= "+rest, bare+" ="+rest, bare+"=", bare+" == "+rest, bare+" ==", bare+" =="+rest, bare+" =\r"+rest, bare+"\r= "+rest, bare+" =a = "+rest, bare+"= = "+rest, bare+" =# "+rest, bare+" x = "+rest, bare+" x= "+rest, bare+" b a = "+rest, bare+" [1] = "+rest, bare+" # = "+rest, bare+" - = "+rest)
		fewer := bare[:strings.LastIndex(bare, " ")]
		wrong(t, things, "error 210", fewer+" = "+rest, fewer+"= "+rest, fewer+" =", fewer+" = = "+rest, fewer, "= "+bare+" "+rest, "= "+rest)
	}
	wrong(t, things, "error 210", "let = [1]", "let = = [1]", "goal = [1]", "goal z = [1]", "goal z f [1]", "form = x", "box =", "box = [1]")
	// A further = is a byte of what stands behind the first one.
	saysBehind(t, things, "let z = = [1]", "error 120 0")
	saysBehind(t, things, "let z = [1] = [2]", "error 120 3")
	saysBehind(t, things, "let z = [1=2]", "error 120 2")
	saysBehind(t, things, "box z = = ", "error 210")
	saysBehind(t, things, "box z = [1]; a = [2]", "error 210")
	saysBehind(t, things, "box z = [1] = [2]", "error 120 3")
	saysBehind(t, things, "form z = s = x*y; s + s", "ok 2 0")
	saysBehind(t, things, "form z = s=x;s", "ok 1 0")
	saysBehind(t, things, "form z = = x", "error 170 0")
	saysBehind(t, things, "goal z f = = [1]", "error 120 0")
	saysBehind(t, things, "goal z f = [1] = [1]", "error 120 3")
	// In other lines it is a byte like others.
	wrong(t, things, "error 210", "vars x = y", "vars =", "show = a", "show a = ", "op neg = [1]", "op = [1]", "names =", "clear =", "drop a =", "eval f b =", "pave = 0.5", "load z = 00", "print = 1 a")
	for _, word := range []string{"vars", "show", "names", "clear", "eval", "let", "box", "form", "goal"} {
		wrong(t, things, "error 210", word+"=", word+"= x", "="+word, "= "+word)
	}
}
