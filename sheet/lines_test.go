package sheet_test

import (
	"strings"
	"testing"

	"verge/api"
	"verge/sheet"
)

// P21.1, and of P21.2 how a line is cut into words.

func tooLong(t *testing.T, text string) {
	t.Helper()
	if got, e := sheet.Run(text); e != api.ErrLong || got != "" {
		t.Errorf("%d bytes, %d line feeds: %q, %d", len(text), strings.Count(text, "\n"), shown(got), e)
	}
}

func saysText(t *testing.T, in, want string) {
	t.Helper()
	if got := answer(t, in); got != want {
		t.Errorf("%q\n says %q\n want %q", shown(in), got, want)
	}
}

func TestNoText(t *testing.T) {
	saysText(t, "", "")
	saysText(t, "\n", "")
	saysText(t, "\n\n", "")
}

// Each line said is ended by a byte 10, whether or not the last line that is read has one.
func TestLineEnds(t *testing.T) {
	saysText(t, "vars", "ok 0\n")
	saysText(t, "vars\n", "ok 0\n")
	saysText(t, "vars\n\n", "ok 0\n")
	saysText(t, "\nvars", "ok 0\n")
	saysText(t, "vars\nvars x", "ok 0\nok 1\n")
	saysText(t, "vars\nvars x\n", "ok 0\nok 1\n")
	saysText(t, "vars\n\n\nvars x\n\n\n", "ok 0\nok 1\n")
	saysText(t, "nonsense", "error 210\n")
	saysText(t, "let a = [1]\nshow a", "ok\n[1e0]_com\n")
	saysText(t, "names", "")
	saysText(t, "names\n", "")
	saysText(t, "box b =\nshow b\nnames", "ok 0\nb box\n")
}

// A byte 10 ends a line wherever it stands, also in what would go on as a literal or a formula.
func TestLineFeedEverywhere(t *testing.T) {
	saysText(t, "let a = [1,\n2]", "error 120 3\nerror 210\n")
	saysText(t, "let\na = [1]", "error 210\nerror 210\n")
	saysText(t, "vars x\nform f = x +\nx", "ok 1\nerror 170 3\nerror 210\n")
	saysText(t, "# box b =\nvars", "ok 0\n")
}

func TestLongestText(t *testing.T) {
	saysText(t, strings.Repeat("#", api.MaxSheet), "")
	saysText(t, strings.Repeat(" ", api.MaxSheet-4)+"vars", "ok 0\n")
	saysText(t, "vars"+strings.Repeat(" ", api.MaxSheet-4), "ok 0\n")
	saysText(t, "vars\n"+strings.Repeat("#", api.MaxSheet-5), "ok 0\n")
	saysText(t, strings.Repeat("x", api.MaxSheet), "error 210\n")
	tooLong(t, strings.Repeat("#", api.MaxSheet+1))
	tooLong(t, strings.Repeat(" ", api.MaxSheet-3)+"vars")
	tooLong(t, "vars\n"+strings.Repeat("#", api.MaxSheet-4))
	tooLong(t, "vars\n"+strings.Repeat("#", api.MaxSheet-5)+"\n")
	tooLong(t, strings.Repeat("\n", api.MaxSheet))
	tooLong(t, strings.Repeat("\n", api.MaxSheet+1))
	tooLong(t, strings.Repeat("vars\n", api.MaxSheet))
}

func TestMostLines(t *testing.T) {
	saysText(t, strings.Repeat("\n", api.MaxLines), "")
	saysText(t, strings.Repeat("\n", api.MaxLines-1)+"vars", "ok 0\n")
	saysText(t, strings.Repeat("\n", api.MaxLines-1)+"vars\n", "ok 0\n")
	saysText(t, strings.Repeat("vars\n", api.MaxLines), strings.Repeat("ok 0\n", api.MaxLines))
	saysText(t, strings.Repeat("vars\n", api.MaxLines-1)+"vars", strings.Repeat("ok 0\n", api.MaxLines))
	saysText(t, strings.Repeat("#\n", api.MaxLines-1)+"vars", "ok 0\n")
	for _, last := range []string{"\n", "v", " ", "#", "\r", "vars", "vars\n"} {
		tooLong(t, strings.Repeat("\n", api.MaxLines)+last)
		tooLong(t, strings.Repeat("vars\n", api.MaxLines)+last)
		tooLong(t, strings.Repeat("# nothing\n", api.MaxLines)+last)
	}
}

// What says nothing: no words, or a first one that begins with #.
func TestLinesThatSayNothing(t *testing.T) {
	for _, line := range []string{"", " ", "\t", " \t \t", "#", "##", "# ", " #", "\t#", "#vars", "# vars", "#\tvars", " \t# let a = [1]", "#=", "#\xff", "#\x00", "#\r", "# é", "#let a = [2, 1]"} {
		says(t, line)
		says(t, line+"|vars|"+line+"|names|"+line, "ok 0")
		saysText(t, line+"\n"+line, "")
	}
}

// A # that does not begin the first word is a byte as any other one.
func TestNumberSignElsewhere(t *testing.T) {
	says(t, "vars #", "error 210")
	says(t, "vars# x", "error 210")
	says(t, "vars x#", "error 210")
	says(t, "names # all of them", "error 210")
	says(t, "let # = [1]", "error 210")
	says(t, "let a = [1] # one", "error 120 3")
	says(t, "let a = #", "error 120 0")
	says(t, "box b = [1] # one", "error 120 3")
	says(t, "box b = [1]; # one", "error 210")
	says(t, "form f = 1 # one", "error 170 2")
	says(t, "op neg #", "error 210")
}

// Blanks are the bytes 32 and 9, any number of them, at a line's ends, between words, about what stands
// behind the =.
func TestBlanks(t *testing.T) {
	gaps := []string{" ", "\t", "  ", "\t\t", " \t", "\t \t  ", strings.Repeat(" \t", 500)}
	for _, gap := range gaps {
		for _, end := range append(gaps, "") {
			put := func(line string) string { return end + strings.ReplaceAll(line, " ", gap) + end }
			says(t, put("vars x y")+"|"+put("form f = x+y")+"|"+put("bytes f"), "ok 2", "ok 1 0", "56470102000001000400000100")
			says(t, put("vars")+"|"+put("names"), "ok 0")
			says(t, put("let a = [1,2]")+"|"+put("op add a [1]")+"|"+put("show a"), "ok", "[2e0, 3e0]_com", "[1e0, 2e0]_com")
			says(t, put("box b = [1] ; [1,2] ; b")+"|"+put("let b = [7]")+"|"+put("box c = [1] ; [1,2] ; b")+"|"+put("show c"), "error 171", "ok", "ok 3", "[1e0]_com", "[1e0, 2e0]_com", "[7e0]_com")
			says(t, put("let a =")+"|"+put("box a =")+"|"+put("form a ="), "error 120 0", "ok 0", "error 170 0")
			says(t, put("let a = [1] x"), "error 120 3")
		}
	}
}

// No other byte is a blank, alone or beside some.
func TestOtherBytesAreNoBlanks(t *testing.T) {
	for _, other := range []string{"\r", "\v", "\f", "\x00", "\x1f", "\x7f", "\u0085", "\u00a0", "\u2003", "\u3000", "\xa0", "\xff", "\xc2", ";", ","} {
		for _, line := range []string{"names" + other, other + "names", "vars x" + other, "vars x" + other + "y", "vars" + other + "x", other, other + other, "let a" + other + "= [1]", "let a =" + other + "[1]", "op" + other + "neg [1]", "pown 2" + other + "[1]"} {
			says(t, line, "error 210")
		}
		says(t, "let a = "+other+"[1]", "error 120 0")
		says(t, "let a = [1]"+other, "error 120 3")
		says(t, "op neg [1]"+other, "error 120 3")
	}
	// A carriage return is one of chapter 12's and chapter 17's blanks, where these have any.
	says(t, "let a = [\r1 ,\r2\r]|show a", "ok", "[1e0, 2e0]_com")
	says(t, "box b = [\r1]; [1]\r", "error 120 3")
	says(t, "vars x|form f = \rx\r*\rx\r|op neg [1,\r2]", "ok 1", "ok 1 0", "[-2e0, -1e0]_com")
	says(t, "vars x\r|vars\r", "error 210", "error 210")
}

// The first word is the command, just as it is written.
func TestNoCommands(t *testing.T) {
	for _, word := range []string{"x", "nonsense", "Vars", "VARS", "var", "varss", "lets", "le", "boxes", "Names", "name", "=", "-", "0", "[1]", "ok", "error", "pave2", "interval", "forms", "neg", "sum", "inner", "\u00e9", "\xff", "v\xe4rs", "let=", "let=a", "\u212aet"} {
		says(t, word, "error 210")
		says(t, word+" a", "error 210")
		says(t, word+" a = [1]", "error 210")
		says(t, "names|"+word+" names|names", "error 210")
	}
}
