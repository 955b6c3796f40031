package rel_test

import (
	"testing"

	"verge/api"
	"verge/rel"
)

// P9.1 to P9.3

func TestAllPairsOfEdges(t *testing.T) {
	eachTwo(9001, func(x, y api.Interval) { checkPair(t, x, y) })
}

// All bit patterns at each end, of either argument: what is no interval counts as Empty does.
func TestAllPatterns(t *testing.T) {
	d := dice(9002)
	eachPattern(9003, func(x api.Interval) {
		checkAlone(t, x)
		for _, y := range []api.Interval{iv(x.Hi, x.Lo), iv(x.Lo, x.Lo), iv(-inf, x.Hi), iv(0, 1), empty, d.interval()} {
			checkPair(t, x, y)
			checkPair(t, y, x)
		}
	})
}

func TestKindsByChance(t *testing.T) {
	d := dice(9004)
	for range 20000 {
		checkAlone(t, d.interval())
	}
}

func TestMember(t *testing.T) {
	for _, x := range crossed(edges()) {
		for _, v := range patterns() {
			checkMember(t, v, x)
		}
	}
	d := dice(9005)
	eachPattern(9006, func(x api.Interval) {
		for _, v := range []float64{x.Lo, x.Hi, above(x.Hi), below(x.Lo), d.beside(x.Lo), d.beside(x.Hi), d.end(), nan} {
			checkMember(t, v, x)
		}
	})
}

// The edges that the document names, written out.

type pairs struct {
	x, y, meet, hull api.Interval
}

func TestEdgesOfSets(t *testing.T) {
	for _, c := range []pairs{
		{empty, entire, empty, entire},
		{entire, entire, entire, entire},
		{entire, iv(1, 2), iv(1, 2), entire},
		{empty, iv(-inf, 3), empty, iv(-inf, 3)},
		{empty, iv(3, inf), empty, iv(3, inf)},
		{iv(1, 4), iv(2, 3), iv(2, 3), iv(1, 4)},
		{iv(1, 2), iv(1, 3), iv(1, 2), iv(1, 3)},
		{iv(1, 3), iv(2, 3), iv(2, 3), iv(1, 3)},
		{iv(-inf, 2), iv(2, inf), iv(2, 2), entire},
		{iv(-inf, 2), iv(3, inf), empty, entire},
		{iv(-inf, 2), iv(-inf, 3), iv(-inf, 2), iv(-inf, 3)},
		{iv(2, inf), iv(3, inf), iv(3, inf), iv(2, inf)},
		{iv(-inf, 3), iv(2, inf), iv(2, 3), entire},
		{iv(1, 1), iv(1, 1), iv(1, 1), iv(1, 1)},
		{iv(1, 1), iv(above(1), 2), empty, iv(1, 2)},
		{iv(-1, signed), iv(0, 1), iv(0, 0), iv(-1, 1)},
		{iv(signed, signed), iv(signed, 1), iv(0, 0), iv(0, 1)},
		{iv(signed, 1), iv(-1, signed), iv(0, 0), iv(-1, 1)},
		{iv(signed, signed), iv(signed, signed), iv(0, 0), iv(0, 0)},
		{iv(2, 1), iv(1, 2), empty, iv(1, 2)},
		{iv(nan, 1), iv(0, signed), empty, iv(0, 0)},
		{iv(1, nan), iv(1, 2), empty, iv(1, 2)},
		{iv(inf, inf), iv(1, inf), empty, iv(1, inf)},
		{iv(-inf, -inf), iv(-inf, 1), empty, iv(-inf, 1)},
		{iv(inf, inf), iv(-inf, -inf), empty, empty},
	} {
		for _, p := range [][2]api.Interval{{c.x, c.y}, {c.y, c.x}} {
			is(t, rel.Intersect(p[0], p[1]), c.meet, "Intersect(%v, %v)", p[0], p[1])
			is(t, rel.Hull(p[0], p[1]), c.hull, "Hull(%v, %v)", p[0], p[1])
		}
	}
}

// The relations that hold, by their letters: e Equal, s Subset, i Interior, d Disjoint, l Less,
// L StrictLess, p Precedes, P StrictPrecedes.
func heldBy(x, y api.Interval) string {
	held := ""
	for n, r := range relations() {
		if r.got(x, y) {
			held += "esidlLpP"[n : n+1]
		}
	}
	return held
}

func TestEdgesOfRelations(t *testing.T) {
	for _, c := range []struct {
		x, y         api.Interval
		held, turned string // of x and y, of y and x
	}{
		{empty, empty, "esidlLpP", "esidlLpP"},
		{empty, iv(1, 2), "sidpP", "dpP"},
		{empty, entire, "sidpP", "dpP"},
		{empty, iv(-inf, 1), "sidpP", "dpP"},
		{empty, iv(1, inf), "sidpP", "dpP"},
		{iv(2, 1), iv(nan, 3), "esidlLpP", "esidlLpP"},
		{iv(inf, inf), iv(1, inf), "sidpP", "dpP"},
		{iv(-inf, -inf), iv(-inf, 1), "sidpP", "dpP"},
		{entire, entire, "esilL", "esilL"},
		{entire, iv(1, 2), "", "si"},
		{entire, iv(1, inf), "lL", "si"},
		{entire, iv(-inf, 1), "", "silL"},
		{iv(-inf, 1), iv(-inf, 1), "esl", "esl"},
		{iv(1, inf), iv(1, inf), "esl", "esl"},
		{iv(-inf, 1), iv(-inf, 2), "silL", ""},
		{iv(1, inf), iv(2, inf), "lL", "si"},
		{iv(-inf, 1), iv(1, inf), "lLp", ""},
		{iv(-inf, 1), iv(2, inf), "dlLpP", "d"},
		{iv(-inf, 2), iv(1, inf), "lL", ""},
		{iv(-inf, 1), iv(1, 1), "lp", "s"},
		{iv(1, 1), iv(1, inf), "slp", ""},
		{iv(1, 1), iv(1, 1), "eslp", "eslp"},
		{iv(signed, 0), iv(0, signed), "eslp", "eslp"},
		{iv(-1, signed), iv(0, 1), "lLp", ""},
		{iv(1, 2), iv(1, 3), "sl", ""},
		{iv(1, 3), iv(2, 3), "l", "s"},
		{iv(2, 3), iv(1, 4), "si", ""},
		{iv(1, 2), iv(2, 3), "lLp", ""},
		{iv(1, 2), iv(3, 4), "dlLpP", "d"},
		{iv(1, 1), iv(above(1), above(1)), "dlLpP", "d"},
		{iv(1, 3), iv(2, 4), "lL", ""},
	} {
		if held := heldBy(c.x, c.y); held != c.held {
			t.Errorf("of %v and %v: %s, want %s", c.x, c.y, held, c.held)
		}
		if held := heldBy(c.y, c.x); held != c.turned {
			t.Errorf("of %v and %v: %s, want %s", c.y, c.x, held, c.turned)
		}
	}
}

func TestEdgesOfMember(t *testing.T) {
	checkClaims(t, []claim{
		{"the lower end", rel.Member(1, iv(1, 3)), true},
		{"the upper end", rel.Member(3, iv(1, 3)), true},
		{"between", rel.Member(2, iv(1, 3)), true},
		{"just below", rel.Member(below(1), iv(1, 3)), false},
		{"just above", rel.Member(above(3), iv(1, 3)), false},
		{"-0 of {0, 0}", rel.Member(signed, iv(0, 0)), true},
		{"0 of {-0, -0}", rel.Member(0, iv(signed, signed)), true},
		{"0 of {-1, -0}", rel.Member(0, iv(-1, signed)), true},
		{"-0 of the least number and 1", rel.Member(signed, iv(least, 1)), false},
		{"the greatest number of a half-line", rel.Member(greatest, iv(1, inf)), true},
		{"the least of one", rel.Member(-greatest, iv(-inf, 1)), true},
		{"+Inf of a half-line", rel.Member(inf, iv(1, inf)), false},
		{"-Inf of a half-line", rel.Member(-inf, iv(-inf, 1)), false},
		{"-Inf of Entire", rel.Member(-inf, entire), false},
		{"0 of Entire", rel.Member(0, entire), true},
		{"NaN of [1, 3]", rel.Member(nan, iv(1, 3)), false},
		{"NaN of Empty", rel.Member(nan, empty), false},
		{"0 of Empty", rel.Member(0, empty), false},
		{"2 of ends in the wrong order", rel.Member(2, iv(3, 1)), false},
		{"1 of {NaN, 1}", rel.Member(1, iv(nan, 1)), false},
		{"1 of {1, NaN}", rel.Member(1, iv(1, nan)), false},
		{"+Inf of {+Inf, +Inf}", rel.Member(inf, iv(inf, inf)), false},
		{"-Inf of {-Inf, -Inf}", rel.Member(-inf, iv(-inf, -inf)), false},
	})
}

func TestEdgesOfKinds(t *testing.T) {
	for _, c := range []struct {
		x    api.Interval
		held string // e IsEmpty, a IsEntire, s IsSingleton, c IsCommon
	}{
		{empty, "e"}, {iv(2, 1), "e"}, {iv(nan, 1), "e"}, {iv(1, nan), "e"}, {iv(nan, nan), "e"}, {iv(inf, inf), "e"}, {iv(-inf, -inf), "e"}, {iv(inf, 1), "e"}, {iv(1, -inf), "e"}, {iv(-inf, nan), "e"}, {iv(nan, inf), "e"},
		{entire, "a"}, {iv(1, inf), ""}, {iv(-inf, 1), ""}, {iv(greatest, inf), ""}, {iv(-inf, -greatest), ""},
		{iv(-greatest, greatest), "c"}, {iv(1, 2), "c"}, {iv(1, above(1)), "c"}, {iv(signed, least), "c"},
		{iv(1, 1), "sc"}, {iv(0, 0), "sc"}, {iv(signed, 0), "sc"}, {iv(0, signed), "sc"}, {iv(signed, signed), "sc"}, {iv(greatest, greatest), "sc"}, {iv(-least, -least), "sc"},
	} {
		held := ""
		for n, k := range kinds() {
			if k.got(c.x) {
				held += "easc"[n : n+1]
			}
		}
		if held != c.held {
			t.Errorf("of %v: %q, want %q", c.x, held, c.held)
		}
	}
}
