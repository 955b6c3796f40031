package sheet_test

import (
	"slices"
	"strings"
	"testing"

	"verge/api"
	"verge/sheet"
)

// What Run says is held against what the chapter's table says, as it is written there.

// byTheTable plays a text both ways, and tells what is said.
func byTheTable(t *testing.T, text string) string {
	t.Helper()
	got, e := sheet.Run(text)
	if want := played(text); e != api.OK || got != want {
		t.Fatalf("%s\n%d: at the byte %d\n says %s\n want %s", shown(text), e, apart(got, want), shown(got), shown(want))
	}
	return got
}

func apart(a, b string) int {
	for i := range min(len(a), len(b)) {
		if a[i] != b[i] {
			return i
		}
	}
	return min(len(a), len(b))
}

// goodLines: of each row some lines that do something in the setting.
func goodLines() []string {
	return []string{"vars x y", "vars", "let a = [1, 2]", "let q = 3?1_def", "box b = [0, 4]; [3, 9]", "box q = a;c", "form f = x + y", "form q = x*y - 1", "goal g f = [5]", "goal q h = [1, 2]", "show a", "show b", "show f", "show g", "print 3 a", "print 2 b",
		"op neg a", "op add a [1,1]", "op fma a c [2]", "op floor c", "pown 2 a", "pown -1 [2]", "back neg 0 [1] a", "back add 0 [5] [0,4] [3,9]", "back fma 2 [5] [0,4] a c", "eval f b", "eval k d", "trace h b", "slopes f b", "mean h d", "newton k b 0", "fold sum 2 b", "fold norm2 1 d", "dot 3 b d",
		"pare 2 b g", "pare 1 d j g", "pave 0.5 9 9 1 b g", "pave 1 5 3 2 d g j", "bytes f", "load q 56470102000001000400000100", "drop a", "drop g", "clear", "names"}
}

// Each word of a good line left out, another one in its place, one more ahead of it and behind them all.
func TestWordsChanged(t *testing.T) {
	for _, line := range goodLines() {
		words := strings.Split(line, " ")
		var texts []string
		add := func(words []string) { texts = append(texts, strings.Join(words, " ")) }
		for at := range len(words) + 1 {
			if at < len(words) {
				add(slices.Delete(slices.Clone(words), at, at+1))
				add(slices.Insert(slices.Clone(words), at, words[at]))
			}
			for _, stray := range strays() {
				if at < len(words) {
					changed := slices.Clone(words)
					changed[at] = stray
					add(changed)
				}
				add(slices.Insert(slices.Clone(words), at, stray))
			}
		}
		for part := range slices.Chunk(texts, 45) {
			text := ""
			for _, changed := range part {
				text += setting + changed + "\nnames\nshow q\n"
			}
			byTheTable(t, text)
		}
	}
}

// Each byte of a good line left out, another one in its place, one more ahead of it.
func TestBytesChanged(t *testing.T) {
	for _, line := range goodLines() {
		var texts []string
		for at := range len(line) + 1 {
			for _, stray := range []string{" ", "\t", "\r", "#", "=", ";", "[", "0", "-", "a", "\xff", "\n"} {
				texts = append(texts, line[:at]+stray+line[at:])
				if at < len(line) {
					texts = append(texts, line[:at]+stray+line[at+1:])
				}
			}
			if at < len(line) {
				texts = append(texts, line[:at]+line[at+1:])
			}
		}
		for part := range slices.Chunk(texts, 45) {
			text := ""
			for _, changed := range part {
				text += setting + changed + "\nshow q\n"
			}
			byTheTable(t, text)
		}
	}
}

func TestSheetsByChance(t *testing.T) {
	d := dice(21001)
	var all strings.Builder
	for range 1500 {
		all.WriteString("\n" + byTheTable(t, d.sheet(40)))
	}
	for _, kind := range []string{"ok\n", "ok 0\n", "ok 2 0", "error 210\n", "error 171\n", "error 171 0", "error 120 ", "error 51 ", "error 1\n", "error 3\n", "error 165 2", "error 166 ", "error 170 ", "error 201\n", "inner [", "edge [", "left [", "inner\n", "in [", "[nai]\n", "[empty]\n", "[empty]_trv", "[entire]_", "a interval", "q box", "q form", "q goal", "5647"} {
		if n := strings.Count(all.String(), "\n"+kind); n < 4 {
			t.Errorf("%q is said %d times", kind, n)
		}
	}
}

// Any bytes in them.
func TestShakenSheets(t *testing.T) {
	d := dice(21002)
	for range 3000 {
		byTheTable(t, d.shake(d.sheet(8)))
	}
}

// Bytes of which next to nothing comes: no call panics.
func TestAnyBytes(t *testing.T) {
	d := dice(21003)
	for range 3000 {
		b := list(d.below(200), func() byte { return pick(&d, byte(d.next()), ' ', '\n', '=', '#') })
		byTheTable(t, string(b))
	}
}
