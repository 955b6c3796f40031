package sheet_test

import (
	"strings"
	"sync"
	"testing"

	"verge/sheet"
)

// P21.6, and R4: what a sheet says hangs on its text alone.

// Of two texts, one behind the other, the first says what it says alone, wherever the whole is cut.
func TestFirstTextSaysTheSame(t *testing.T) {
	d := dice(21061)
	for range 60 {
		text := d.sheet(20)
		whole := answer(t, text)
		lines := strings.SplitAfter(text, "\n")
		for at := range lines {
			first := strings.Join(lines[:at], "")
			if got := answer(t, first); !strings.HasPrefix(whole, got) {
				t.Fatalf("%s\n says %s\n behind it all %s", shown(first), shown(got), shown(whole))
			}
		}
	}
}

// The second one says what it says with what the first one has left, however that came to be.
func TestSecondTextGoesOn(t *testing.T) {
	d := dice(21062)
	for range 400 {
		first, second := d.sheet(10)+"clear\n"+setting, d.sheet(10)
		second = strings.TrimPrefix(second, setting)
		alone := strings.TrimPrefix(answer(t, setting+second), answer(t, setting))
		got := answer(t, first+second)
		if want := answer(t, first) + alone; got != want {
			t.Fatalf("%s\n then %s\n says %s\n want %s", shown(first), shown(second), shown(got), shown(want))
		}
	}
}

// What a first text has left, each kind of thing and the variables, is there for the second one.
func TestWhatIsLeft(t *testing.T) {
	says(t, "vars x|let a = [1]|box b = a; [2]", "ok 1", "ok", "ok 2")
	says(t, "vars x|let a = [1]|box b = a; [2]|form f = x|goal g f = [1]|", "ok 1", "ok", "ok 2", "ok 1 0", "ok")
	says(t, "vars x|let a = [1]|box b = a; [2]|form f = x|goal g f = [1]|names|op neg a|fold sum 1 b|bytes f|show g|form h = x", "ok 1", "ok", "ok 2", "ok 1 0", "ok", "a interval|b box|f form|g goal", "[-1e0]_com", "[3e0]", "564701010000010002"+"0000", "in [1e0]|id(x)", "ok 1 0")
}

// Lines that say nothing may stand anywhere.
func TestLinesThatSayNothingAnywhere(t *testing.T) {
	d := dice(21063)
	for range 300 {
		text := d.sheet(12)
		var with strings.Builder
		for _, line := range strings.SplitAfter(text, "\n") {
			for d.below(3) == 0 {
				with.WriteString(pick(&d, "", " ", "\t", " \t ", "#", "# clear", "#clear", "\t# drop a", "# let a = [9]", "#\xff", "# é\r") + "\n")
			}
			with.WriteString(line)
		}
		if got, want := answer(t, with.String()), answer(t, text); got != want {
			t.Fatalf("%s\n says %s\n want %s", shown(with.String()), shown(got), shown(want))
		}
	}
}

// A sheet played twice says the same: in two calls, and in one, when all is as it was at first.
func TestPlayedTwice(t *testing.T) {
	d := dice(21064)
	for range 300 {
		text := d.sheet(12)
		once := answer(t, text)
		if again := answer(t, text); again != once {
			t.Fatalf("%s\n says %s\n then %s", shown(text), shown(once), shown(again))
		}
		anew := "clear\nvars\n"
		if got, want := answer(t, text+anew+text), once+"ok\nok 0\n"+once; got != want {
			t.Fatalf("%s\n twice says %s\n want %s", shown(text), shown(got), shown(want))
		}
	}
}

// How many workers there are is not seen.
func TestWorkersPlayNoPart(t *testing.T) {
	const ahead = "vars x y|form f = sqr(x) + y*[1, 1.5]|goal g f = [1, 4]|box b = [-4, 4]; [-1, 2]|"
	for _, line := range []string{"pave 0.25 500 20 # b g", "pave 1e-9 300 9 # b g g", "fold norm2 # b", "dot # b b"} {
		once := behind(t, ahead, strings.Replace(line, "#", "1", 1))
		for _, workers := range []string{"2", "3", "7", "16"} {
			if got := behind(t, ahead, strings.Replace(line, "#", workers, 1)); got != once || len(once) < 8 {
				t.Errorf("%s with %s workers:\n%s\n%s", line, workers, shown(got), shown(once))
			}
		}
	}
}

// Two sheets have nothing in common, also when they are played at one time.
func TestAtOneTime(t *testing.T) {
	d := dice(21065)
	texts := list(24, func() string { return d.sheet(12) })
	var alone []string
	for _, text := range texts {
		alone = append(alone, answer(t, text))
	}
	var all sync.WaitGroup
	for i := range texts {
		for range 3 {
			all.Go(func() {
				if got, _ := sheet.Run(texts[i]); got != alone[i] {
					t.Errorf("%s\n says %s\n alone %s", shown(texts[i]), shown(got), shown(alone[i]))
				}
			})
		}
	}
	all.Wait()
}
