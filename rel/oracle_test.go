package rel_test

import (
	"math"
	"math/big"
	"slices"
	"testing"

	"verge/api"
	"verge/rel"
)

// What the tests ask by: the chapter's words, "for each" and "for some" over points, the rows of
// its table, and exact sums on math/big.

const (
	greatest = math.MaxFloat64
	least    = math.SmallestNonzeroFloat64
)

var (
	inf    = math.Inf(1)
	nan    = math.NaN()
	signed = math.Copysign(0, -1)
	empty  = api.Interval{Lo: inf, Hi: -inf}
	entire = api.Interval{Lo: -inf, Hi: inf}
)

func iv(lo, hi float64) api.Interval { return api.Interval{Lo: lo, Hi: hi} }

func above(x float64) float64 { return math.Nextafter(x, inf) }
func below(x float64) float64 { return math.Nextafter(x, -inf) }

// same: one pattern at each end.
func same(x, y api.Interval) bool {
	return math.Float64bits(x.Lo) == math.Float64bits(y.Lo) && math.Float64bits(x.Hi) == math.Float64bits(y.Hi)
}

func is(t *testing.T, got, want api.Interval, format string, args ...any) {
	t.Helper()
	if !same(got, want) {
		t.Errorf(format+" = %x, want %x", append(args, got, want)...)
	}
}

func holds(t *testing.T, got, want bool, format string, args ...any) {
	t.Helper()
	if got != want {
		t.Errorf(format+" is %v", append(args, got)...)
	}
}

// taken tells an interval as it is read, and whether that is Empty.
func taken(x api.Interval) (api.Interval, bool) {
	if x.Lo != x.Lo || x.Hi != x.Hi || x.Lo > x.Hi || x.Lo == inf || x.Hi == -inf {
		return empty, true
	}
	return iv(x.Lo+0, x.Hi+0), false
}

func read(x api.Interval) api.Interval {
	x, _ = taken(x)
	return x
}

// right tells whether an interval is valid, by the document's words.
func right(x api.Interval) bool {
	if x.Lo == inf && x.Hi == -inf {
		return true
	}
	noughts := x.Lo == 0 && math.Signbit(x.Lo) || x.Hi == 0 && math.Signbit(x.Hi)
	return x.Lo <= x.Hi && x.Lo != inf && x.Hi != -inf && !noughts
}

// scene: the reals, as they lie to the ends of some intervals. All that the relations ask hangs on
// the order alone, and between any two reals, below and above each, there are others: so whole
// numbers stand for them. The ends that are numbers are 16, 32 .. A point that is picked first is
// a multiple of 8: an end, or one for all between two ends, below, or above them. A point that is
// picked second is a multiple of 4: so there is one on each side of every one that was picked first.
type scene struct{ ends []float64 }

func sceneOf(list ...api.Interval) scene {
	var s scene
	for _, x := range list {
		for _, end := range []float64{x.Lo, x.Hi} {
			if !math.IsInf(end, 0) {
				s.ends = append(s.ends, end)
			}
		}
	}
	slices.Sort(s.ends)
	s.ends = slices.Compact(s.ends)
	return s
}

func (s scene) rank(end float64) int {
	switch {
	case end == inf:
		return math.MaxInt
	case end == -inf:
		return math.MinInt
	}
	return 16 * (1 + slices.Index(s.ends, end))
}

func (s scene) points(step int) []int {
	var out []int
	for p := step; p < 16*(len(s.ends)+1); p += step {
		out = append(out, p)
	}
	return out
}

func (s scene) has(x api.Interval, p int) bool { return s.rank(x.Lo) <= p && p <= s.rank(x.Hi) }

// picked: an interval's points.
type picked struct{ first, second []int }

func (s scene) pick(x api.Interval) picked {
	in := func(list []int) []int {
		return slices.DeleteFunc(list, func(p int) bool { return !s.has(x, p) })
	}
	return picked{in(s.points(8)), in(s.points(4))}
}

func forEach(points []int, ok func(p int) bool) bool {
	for _, p := range points {
		if !ok(p) {
			return false
		}
	}
	return true
}

func forSome(points []int, ok func(p int) bool) bool {
	return !forEach(points, func(p int) bool { return !ok(p) })
}

// eachHas: for each point of x some one of y lies to it as is asked.
func eachHas(x, y picked, ok func(a, b int) bool) bool {
	return forEach(x.first, func(a int) bool {
		return forSome(y.second, func(b int) bool { return ok(a, b) })
	})
}

// eachAndEach: every two lie to each other as is asked.
func eachAndEach(x, y picked, ok func(a, b int) bool) bool {
	return forEach(x.first, func(a int) bool {
		return forEach(y.second, func(b int) bool { return ok(a, b) })
	})
}

func sameReal(a, b int) bool { return a == b }
func other(a, b int) bool    { return a != b }
func lower(a, b int) bool    { return a < b }
func higher(a, b int) bool   { return a > b }
func notAbove(a, b int) bool { return a <= b }
func notBelow(a, b int) bool { return a >= b }

type relation struct {
	name string
	got  func(x, y api.Interval) bool
	want func(x, y picked) bool
}

func relations() []relation {
	return []relation{
		{"Equal", rel.Equal, func(x, y picked) bool { return eachHas(x, y, sameReal) && eachHas(y, x, sameReal) }},
		{"Subset", rel.Subset, func(x, y picked) bool { return eachHas(x, y, sameReal) }},
		{"Interior", rel.Interior, func(x, y picked) bool { return eachHas(x, y, higher) && eachHas(x, y, lower) }},
		{"Disjoint", rel.Disjoint, func(x, y picked) bool { return eachAndEach(x, y, other) }},
		{"Less", rel.Less, func(x, y picked) bool { return eachHas(x, y, notAbove) && eachHas(y, x, notBelow) }},
		{"StrictLess", rel.StrictLess, func(x, y picked) bool { return eachHas(x, y, lower) && eachHas(y, x, higher) }},
		{"Precedes", rel.Precedes, func(x, y picked) bool { return eachAndEach(x, y, notAbove) }},
		{"StrictPrecedes", rel.StrictPrecedes, func(x, y picked) bool { return eachAndEach(x, y, lower) }},
	}
}

func checkRelations(t *testing.T, x, y api.Interval) {
	t.Helper()
	s := sceneOf(read(x), read(y))
	a, b := s.pick(read(x)), s.pick(read(y))
	for _, r := range relations() {
		holds(t, r.got(x, y), r.want(a, b), "%s(%x, %x)", r.name, x, y)
	}
}

// checkSet: the answer is valid, its ends are ends of the two, and its points those that are asked for.
func checkSet(t *testing.T, name string, x, y, got api.Interval, asked func(s scene, p int) bool) {
	t.Helper()
	a, b := read(x), read(y)
	s := sceneOf(a, b)
	for _, end := range []float64{got.Lo, got.Hi} {
		if !right(got) || !math.IsInf(end, 0) && !slices.Contains(s.ends, end) {
			t.Errorf("%s(%x, %x) = %x", name, x, y, got)
			return
		}
	}
	for _, p := range s.points(8) {
		if want := asked(s, p); s.has(got, p) != want {
			t.Errorf("%s(%x, %x) = %x: is place %d asked for? %v", name, x, y, got, p, want)
		}
	}
}

func checkSets(t *testing.T, x, y api.Interval) {
	t.Helper()
	a, b := read(x), read(y)
	checkSet(t, "Intersect", x, y, rel.Intersect(x, y), func(s scene, p int) bool { return s.has(a, p) && s.has(b, p) })
	checkSet(t, "Hull", x, y, rel.Hull(x, y), func(s scene, p int) bool {
		all := append(s.pick(a).second, s.pick(b).second...)
		return forSome(all, func(q int) bool { return q <= p }) && forSome(all, func(q int) bool { return q >= p })
	})
}

// Overlap's table, row by row, and what stands across from each constant.

type overlap struct {
	name        string
	is, mirrors int
	when        func(a, b, c, d float64) bool
}

func overlaps() []overlap {
	return []overlap{
		{"Before", api.Before, api.After, func(a, b, c, d float64) bool { return b < c }},
		{"Meets", api.Meets, api.MetBy, func(a, b, c, d float64) bool { return a < b && b == c && c < d }},
		{"Overlaps", api.Overlaps, api.OverlappedBy, func(a, b, c, d float64) bool { return a < c && c < b && b < d }},
		{"Starts", api.Starts, api.StartedBy, func(a, b, c, d float64) bool { return a == c && b < d }},
		{"ContainedBy", api.ContainedBy, api.Contains, func(a, b, c, d float64) bool { return c < a && b < d }},
		{"Finishes", api.Finishes, api.FinishedBy, func(a, b, c, d float64) bool { return c < a && b == d }},
		{"Equals", api.Equals, api.Equals, func(a, b, c, d float64) bool { return a == c && b == d }},
		{"After", api.After, api.Before, func(a, b, c, d float64) bool { return d < a }},
		{"MetBy", api.MetBy, api.Meets, func(a, b, c, d float64) bool { return c < d && d == a && a < b }},
		{"OverlappedBy", api.OverlappedBy, api.Overlaps, func(a, b, c, d float64) bool { return c < a && a < d && d < b }},
		{"StartedBy", api.StartedBy, api.Starts, func(a, b, c, d float64) bool { return a == c && d < b }},
		{"Contains", api.Contains, api.ContainedBy, func(a, b, c, d float64) bool { return a < c && d < b }},
		{"FinishedBy", api.FinishedBy, api.Finishes, func(a, b, c, d float64) bool { return a < c && b == d }},
	}
}

// wantOverlap tells the state, and the one across; how many rows are true, too.
func wantOverlap(x, y api.Interval) (state, across, rows int) {
	x, none := taken(x)
	y, nor := taken(y)
	switch {
	case none && nor:
		return api.BothEmpty, api.BothEmpty, 1
	case none:
		return api.FirstEmpty, api.SecondEmpty, 1
	case nor:
		return api.SecondEmpty, api.FirstEmpty, 1
	}
	for _, row := range overlaps() {
		if row.when(x.Lo, x.Hi, y.Lo, y.Hi) {
			state, across = row.is, row.mirrors
			rows++
		}
	}
	return state, across, rows
}

func checkOverlap(t *testing.T, x, y api.Interval) {
	t.Helper()
	state, across, rows := wantOverlap(x, y)
	if rows != 1 {
		t.Fatalf("%d rows are true of %x and %x", rows, x, y)
	}
	if got := rel.Overlap(x, y); got != state {
		t.Errorf("Overlap(%x, %x) = %d, want %d", x, y, got, state)
	}
	if got := rel.Overlap(y, x); got != across {
		t.Errorf("Overlap(%x, %x) = %d, want %d", y, x, got, across)
	}
}

func checkPair(t *testing.T, x, y api.Interval) {
	t.Helper()
	checkRelations(t, x, y)
	checkSets(t, x, y)
	checkOverlap(t, x, y)
}

// place tells a number's place by its pattern; NaN is not asked for.
func place(x float64) *big.Int {
	bits := math.Float64bits(x)
	p := new(big.Int).SetUint64(bits &^ (1 << 63))
	if bits>>63 == 1 {
		p.Neg(p)
	}
	return p
}

func at(p *big.Int) float64 {
	x := math.Float64frombits(new(big.Int).Abs(p).Uint64())
	if p.Sign() < 0 {
		return -x
	}
	return x
}

// wantCut tells the number at which an interval is cut, if there is one between its ends.
func wantCut(x api.Interval) (float64, bool) {
	x, none := taken(x)
	if none {
		return 0, false
	}
	from, to := place(x.Lo), place(x.Hi)
	if new(big.Int).Sub(to, from).Cmp(big.NewInt(2)) < 0 {
		return 0, false
	}
	if math.IsInf(x.Lo, 0) || math.IsInf(x.Hi, 0) {
		sum := new(big.Int).Add(from, to)
		return at(sum.Rsh(sum, 1)), true // Rsh rounds down, below 0 too
	}
	sum := new(big.Float).SetPrec(2200).SetFloat64(x.Lo)
	sum.Add(sum, big.NewFloat(x.Hi))
	mid, _ := sum.Quo(sum, big.NewFloat(2)).Float64() // to the nearest, of two the even one
	return mid + 0, true
}

func checkBisect(t *testing.T, x api.Interval) {
	t.Helper()
	var low, high api.Interval
	c, cuts := wantCut(x)
	if cuts {
		low, high = iv(read(x).Lo, c), iv(c, read(x).Hi)
	}
	l, r, ok := rel.Bisect(x)
	holds(t, ok, cuts, "Bisect(%x): ok", x)
	is(t, l, low, "Bisect(%x): l", x)
	is(t, r, high, "Bisect(%x): r", x)
}

// wantMember goes by places.
func wantMember(v float64, x api.Interval) bool {
	x, none := taken(x)
	if none || v != v || math.IsInf(v, 0) {
		return false
	}
	return place(x.Lo).Cmp(place(v)) <= 0 && place(v).Cmp(place(x.Hi)) <= 0
}

type kind struct {
	name      string
	got, want func(x api.Interval) bool
}

func wantEmpty(x api.Interval) bool { return len(pickAlone(x)) == 0 }

// wantEntire: below and above all ends there are points of it, and all between are.
func wantEntire(x api.Interval) bool {
	return len(pickAlone(x)) == len(sceneOf(read(x)).points(8))
}

// wantSingleton: one point, and none beside it, below or above.
func wantSingleton(x api.Interval) bool {
	return len(pickAlone(x)) == 1 && !wantEntire(x)
}

func wantCommon(x api.Interval) bool {
	x, none := taken(x)
	return !none && x.Lo >= -greatest && x.Hi <= greatest
}

func pickAlone(x api.Interval) []int { return sceneOf(read(x)).pick(read(x)).first }

func kinds() []kind {
	return []kind{{"IsEmpty", rel.IsEmpty, wantEmpty}, {"IsEntire", rel.IsEntire, wantEntire}, {"IsSingleton", rel.IsSingleton, wantSingleton}, {"IsCommon", rel.IsCommon, wantCommon}}
}

// checkAlone: what is asked of one interval.
func checkAlone(t *testing.T, x api.Interval) {
	t.Helper()
	for _, k := range kinds() {
		holds(t, k.got(x), k.want(x), "%s(%x)", k.name, x)
	}
	checkBisect(t, x)
}

func checkMember(t *testing.T, v float64, x api.Interval) {
	t.Helper()
	holds(t, rel.Member(v, x), wantMember(v, x), "Member(%x, %x)", v, x)
}
