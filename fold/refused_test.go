package fold_test

import (
	"testing"

	"verge/api"
)

// P15.1: what is refused.

func wrongCrews() []int {
	return []int{minInt, minInt + 1, -1 << 31, -17, -16, -1, 0, 17, 18, 32, 1<<31 - 1, maxInt - 1, maxInt}
}

func refused(t *testing.T, c call, a, b list, workers int) {
	t.Helper()
	if x, err := c.ask(a, b, workers); err != api.ErrArg || !same(x, iv(0, 0)) {
		t.Errorf("%s(%s, %s, %d) = %x, %d", c.name, shown(a), shown(b), workers, x, err)
	}
}

// lists of many kinds, none of which is refused for what it holds.
func lists() []list {
	d := dice(15010)
	return []list{nil, {}, make(list, 5)[:0], {iv(1, 2)}, {empty}, {iv(nan, nan)}, {iv(2, 1)}, {entire}, points(1, 2), {iv(1, 2), empty, iv(3, 4)}, d.list(16, d.interval), d.list(17, d.wild), d.list(300, d.interval), d.list(3000, d.point)}
}

func TestWrongWorkers(t *testing.T) {
	for _, l := range lists() {
		for _, c := range calls() {
			for _, w := range wrongCrews() {
				refused(t, c, l, l, w)
			}
		}
	}
}

// From 1 to 16 workers all is well, and nothing but workers and lengths is refused.
func TestRightWorkers(t *testing.T) {
	for _, l := range lists() {
		checkAll(t, l, l, everyCrew()...)
		for _, c := range calls() {
			if c.name == "Mean" && len(l) == 0 {
				continue
			}
			for _, w := range everyCrew() {
				if _, err := c.ask(l, l, w); err != api.OK {
					t.Errorf("%s(%s, %d): error %d", c.name, shown(l), w, err)
				}
			}
		}
	}
}

func TestMeanOfNone(t *testing.T) {
	for _, l := range []list{nil, {}, make(list, 0, 9), points(1, 2)[:0]} {
		for _, c := range calls() {
			for _, w := range everyCrew() {
				if c.name == "Mean" {
					refused(t, c, l, l, w)
				}
			}
			for _, w := range wrongCrews() { // and where two would be
				refused(t, c, l, l, w)
			}
			if c.name != "Mean" {
				gives(t, c.name, pt(0), l, l...)
			}
		}
	}
}

func TestDotOfUnlikeLengths(t *testing.T) {
	dot := calls()[5]
	if !dot.both() {
		t.Fatal("the sixth call is not Dot")
	}
	for _, a := range lists() {
		for _, b := range lists() {
			if len(a) == len(b) {
				dot.check(t, a, b, everyCrew()...)
				continue
			}
			for _, w := range append(everyCrew(), wrongCrews()...) {
				refused(t, dot, a, b, w)
			}
		}
	}
	long := dice(15011)
	l := long.list(1025, long.bounded)
	for _, n := range []int{0, 1, 2, 63, 64, 255, 256, 257, 512, 1023, 1024} { // the shorter one has spare room
		refused(t, dot, l, l[:n], 3)
		refused(t, dot, l[:n], l, 3)
		refused(t, dot, l[:n+1], l[:n], 16)
		refused(t, dot, l[:n], l[:n+1], 1)
		dot.check(t, l[:n], l[1025-n:], 1, 3, 16)
	}
}
