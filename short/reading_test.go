package short_test

import (
	"math"
	"testing"

	"verge/api"
	"verge/short"
)

// P14.2

func TestReadOfEdges(t *testing.T) {
	for _, x := range shorts(patterns32()) {
		checkRead(t, x)
	}
}

func TestReadByChance(t *testing.T) {
	d := dice(14020)
	for range 100000 {
		x := d.wild()
		checkRead(t, x)
		checkRead(t, api.Short{Lo: x.Lo, Hi: x.Lo})
		checkRead(t, api.Short{Lo: min(x.Lo, x.Hi), Hi: max(x.Lo, x.Hi)})
		checkRead(t, api.Short{Lo: x.Lo, Hi: math.Float32frombits(math.Float32bits(x.Lo) ^ 1<<d.below(32))})
	}
}

// What is read, and what is valid, written out.
func TestReadWrittenOut(t *testing.T) {
	for _, row := range []struct {
		x, want api.Short
		valid   bool
	}{
		{sv(1, 2), sv(1, 2), true},
		{sv(1, 1), sv(1, 1), true},
		{sv(-least, least), sv(-least, least), true},
		{sv(-greatest, greatest), sv(-greatest, greatest), true},
		{entire, entire, true},
		{empty, empty, true},
		{sv(-inf, 3), sv(-inf, 3), true},
		{sv(3, inf), sv(3, inf), true},
		{sv(0, 0), sv(0, 0), true},
		{sv(signed, 0), sv(0, 0), false},
		{sv(0, signed), sv(0, 0), false},
		{sv(signed, signed), sv(0, 0), false},
		{sv(-1, signed), sv(-1, 0), false},
		{sv(signed, inf), sv(0, inf), false},
		{sv(2, 1), empty, false},
		{sv(least, 0), empty, false},
		{sv(0, -least), empty, false},
		{sv(1, -inf), empty, false},
		{sv(inf, 1), empty, false},
		{sv(inf, inf), empty, false},
		{sv(-inf, -inf), empty, false},
		{sv(nan, 1), empty, false},
		{sv(1, nan), empty, false},
		{sv(nan, nan), empty, false},
		{sv(nan, -inf), empty, false},
		{sv(inf, nan), empty, false},
		{sv(signed, nan), empty, false},
	} {
		is(t, short.Read(row.x), row.want, "Read(%v)", row.x)
		if got := short.Valid(row.x); got != row.valid {
			t.Errorf("Valid(%v) = %t", row.x, got)
		}
	}
}
