package sheet_test

import (
	"slices"
	"strconv"
	"strings"
	"testing"

	"verge/api"
	"verge/sheet"
)

// How the tests ask. Where a text is written with strokes, each of them stands for a byte 10.

func lines(strokes string) string { return strings.ReplaceAll(strokes, "|", "\n") }

// answer plays a text that is not refused.
func answer(t *testing.T, text string) string {
	t.Helper()
	got, e := sheet.Run(text)
	if e != api.OK {
		t.Fatalf("%s: error %d", shown(text), e)
	}
	return got
}

// shown tells a text, of a long one its ends.
func shown(text string) string {
	if len(text) > 2000 {
		text = text[:900] + " .. " + text[len(text)-900:]
	}
	return strings.ReplaceAll(text, "\n", "|")
}

// says holds what a sheet says against the lines that are wanted.
func says(t *testing.T, in string, want ...string) {
	t.Helper()
	got := answer(t, lines(in))
	if told := told(want...); got != told {
		t.Errorf("%s\n says %s\n want %s", shown(lines(in)), shown(got), shown(told))
	}
}

// told tells the text of lines, each ended by a byte 10. A stroke parts lines, too.
func told(said ...string) string {
	var out strings.Builder
	for _, s := range said {
		out.WriteString(lines(s) + "\n")
	}
	return out.String()
}

// behind tells what a line, or several, say when others have been played.
func behind(t *testing.T, ahead, line string) string {
	t.Helper()
	first := answer(t, lines(ahead)+"\n")
	return strings.TrimPrefix(answer(t, lines(ahead)+"\n"+lines(line)), first)
}

// saysBehind holds that against the lines that are wanted.
func saysBehind(t *testing.T, ahead, line string, want ...string) {
	t.Helper()
	if got, told := behind(t, ahead, line), told(want...); got != told {
		t.Errorf("behind %s: %s\n says %s\n want %s", shown(lines(ahead)), shown(line), shown(got), shown(told))
	}
}

// wrong asks that each of some lines, behind others, says that error and nothing else, and that nothing is
// changed by it.
func wrong(t *testing.T, ahead, complaint string, lines ...string) {
	t.Helper()
	for _, line := range lines {
		saysBehind(t, ahead, line, complaint)
		if before, after := state(t, ahead), state(t, ahead+"|"+line); before != after {
			t.Errorf("behind %s: %s changes\n%s to\n%s", shown(ahead), shown(line), before, after)
		}
	}
}

// state tells all that can be seen of what a sheet has kept: what the names stand for, and which variables
// there are, in which order.
func state(t *testing.T, ahead string) string {
	t.Helper()
	probes := []string{"names"}
	for _, name := range names() {
		probes = append(probes, "show "+name)
	}
	for _, name := range names() {
		probes = append(probes, "form zz = "+name, "bytes zz")
	}
	return behind(t, ahead, strings.Join(append(probes, "form zz = 1", "bytes zz"), "\n"))
}

// names are those that the tests give to variables and things.
func names() []string { return []string{"x", "y", "z", "u", "a", "b", "f", "g", "v0", "v1"} }

func repeated(n int, text string) []string { return slices.Repeat([]string{text}, n) }

// written tells a number in all its digits, as the document writes them.
func written(x float64) string {
	digits, power, _ := strings.Cut(strconv.FormatFloat(x, 'e', 800, 64), "e")
	digits = strings.TrimSuffix(strings.TrimRight(digits, "0"), ".")
	n, _ := strconv.Atoi(power)
	return digits + "e" + strconv.Itoa(n)
}
