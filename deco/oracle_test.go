package deco_test

import (
	"math"
	"math/big"
	"testing"

	"verge/api"
	"verge/deco"
)

// What is asked, by the document's words: for all operations, forward and backward, one question:
// whether the value at some elements of sets of reals lies in another one. What a call answers is held
// against that by the words for the least interval: no element of the set lies outside, and a number
// further in one does.

// same compares ends bit by bit.
func same(x, y api.Interval) bool {
	return math.Float64bits(x.Lo) == math.Float64bits(y.Lo) && math.Float64bits(x.Hi) == math.Float64bits(y.Hi)
}

func is(t *testing.T, got, want api.Interval, format string, args ...any) {
	t.Helper()
	if !same(got, want) {
		t.Errorf(format+" = {%x, %x}, want {%x, %x}", append(args, got.Lo, got.Hi, want.Lo, want.Hi)...)
	}
}

func isDeco(t *testing.T, got, want api.Deco, format string, args ...any) {
	t.Helper()
	if !same(got.X, want.X) || got.D != want.D {
		t.Errorf(format+" = {%x, %d}, want {%x, %d}", append(args, got.X, got.D, want.X, want.D)...)
	}
}

// checkLeast: got is the least interval that holds those v of all for which asked holds; asked tells
// whether there is one in a set.
func checkLeast(t *testing.T, got api.Interval, all span, asked func(v span) bool, format string, args ...any) {
	t.Helper()
	switch {
	case !right(got):
		t.Errorf(format+" = {%x, %x}, which is not valid", append(args, got.Lo, got.Hi)...)
		return
	case !asked(all):
		is(t, got, empty, format, args...)
		return
	case got == empty:
		t.Errorf(format+" is Empty", args...)
		return
	}
	some := func(v span) bool { return reaches(v.lo, v.hi) && asked(v) }
	if some(all.under(got.Lo)) {
		t.Errorf(format+" = {%x, %x}: some lie below", append(args, got.Lo, got.Hi)...)
	}
	if some(all.over(got.Hi)) {
		t.Errorf(format+" = {%x, %x}: some lie above", append(args, got.Lo, got.Hi)...)
	}
	if !some(all.under(above(got.Lo))) {
		t.Errorf(format+" = {%x, %x}: none lies so low", append(args, got.Lo, got.Hi)...)
	}
	if !some(all.over(below(got.Hi))) {
		t.Errorf(format+" = {%x, %x}: none lies so high", append(args, got.Lo, got.Hi)...)
	}
}

// under tells what of a set lies below an end: it may be nothing.
func (s span) under(x float64) span {
	if hi := end(x, false); order(hi, s.hi) <= 0 {
		s.hi = hi
	}
	return s
}

// over tells what of a set lies above an end: it may be nothing.
func (s span) over(x float64) span {
	if lo := end(x, false); order(lo, s.lo) >= 0 {
		s.lo = lo
	}
	return s
}

// somewhere tells whether one of some sets meets c.
func somewhere(c span, sets ...span) bool {
	for _, s := range sets {
		if s.meets(c) {
			return true
		}
	}
	return false
}

func added(sets []span, z span) []span {
	out := make([]span, len(sets))
	for i, s := range sets {
		out[i] = s.plus(z)
	}
	return out
}

// operation is one of the document's table: meets tells whether it is defined at some elements of sets
// that are not empty, with a value in c; gap tells whether it is not defined at some; step, of a step,
// tells its value.
type operation struct {
	name     string
	op, n    int
	operands int
	meets    func(a []span, c span) bool
	gap      func(a []api.Interval) bool
	step     func(x *big.Rat) *big.Int
}

func never([]api.Interval) bool { return false }

func hasNought(x api.Interval) bool { return x.Lo <= 0 && 0 <= x.Hi }

func smooth() []operation {
	return []operation{
		{"Id", api.OpId, 0, 1, func(a []span, c span) bool { return a[0].meets(c) }, never, nil},
		{"Neg", api.OpNeg, 0, 1, func(a []span, c span) bool { return a[0].minus().meets(c) }, never, nil},
		{"Add", api.OpAdd, 0, 2, func(a []span, c span) bool { return a[0].plus(a[1]).meets(c) }, never, nil},
		{"Sub", api.OpSub, 0, 2, func(a []span, c span) bool { return a[0].plus(a[1].minus()).meets(c) }, never, nil},
		{"Mul", api.OpMul, 0, 2, func(a []span, c span) bool { return somewhere(c, products(a[0], a[1])...) }, never, nil},
		{"Div", api.OpDiv, 0, 2, func(a []span, c span) bool { return somewhere(c, ratios(a[0], a[1])...) },
			func(a []api.Interval) bool { return hasNought(a[1]) }, nil},
		{"Recip", api.OpRecip, 0, 1, func(a []span, c span) bool { return somewhere(c, ratios(single(1), a[0])...) },
			func(a []api.Interval) bool { return hasNought(a[0]) }, nil},
		{"Sqr", api.OpSqr, 0, 1, func(a []span, c span) bool { return somewhere(c, powers(a[0], 2)...) }, never, nil},
		{"Sqrt", api.OpSqrt, 0, 1, rooted, func(a []api.Interval) bool { return a[0].Lo < 0 }, nil},
		{"FMA", api.OpFMA, 0, 3, func(a []span, c span) bool { return somewhere(c, added(products(a[0], a[1]), a[2])...) }, never, nil},
		{"Abs", api.OpAbs, 0, 1, magnitude, never, nil},
		{"Min", api.OpMin, 0, 2, func(a []span, c span) bool { return lesser(a[0], a[1]).meets(c) }, never, nil},
		{"Max", api.OpMax, 0, 2, func(a []span, c span) bool { return lesser(a[0].minus(), a[1].minus()).minus().meets(c) }, never, nil},
	}
}

func power(n int) operation {
	return operation{"Pown", api.OpPown, n, 1, func(a []span, c span) bool { return somewhere(c, powers(a[0], n)...) },
		func(a []api.Interval) bool { return n < 0 && hasNought(a[0]) }, nil}
}

func steps() []operation {
	out := []operation{{"Sign", api.OpSign, 0, 1, nil, never, signOf}, {"Floor", api.OpFloor, 0, 1, nil, never, floorOf},
		{"Ceil", api.OpCeil, 0, 1, nil, never, ceilOf}, {"Trunc", api.OpTrunc, 0, 1, nil, never, truncOf},
		{"RoundEven", api.OpRoundEven, 0, 1, nil, never, evenOf}, {"RoundAway", api.OpRoundAway, 0, 1, nil, never, awayOf}}
	for i, f := range out {
		out[i].meets = func(a []span, c span) bool { return wholeBetween(f.values(a[0]), c) }
	}
	return out
}

// operations are all, Pown with a few powers.
func operations() []operation {
	out := append(smooth(), steps()...)
	for _, n := range []int{-4, -3, -2, -1, 0, 1, 2, 3, 4} {
		out = append(out, power(n))
	}
	return out
}

// rooted: a real is the root of an element of a, just if its square is one and it is not below 0.
func rooted(a []span, c span) bool {
	_, nought, over := c.parted()
	return somewhere(a[0], squares(over)...) || nought && single(0).meets(a[0])
}

func squares(over []span) []span {
	var out []span
	for _, part := range over {
		out = append(out, raised(part, 2))
	}
	return out
}

func magnitude(a []span, c span) bool {
	under, nought, over := a[0].parted()
	for _, part := range under {
		over = append(over, part.minus())
	}
	return nought && single(0).meets(c) || somewhere(c, over...)
}

// The steps, of reals as ratios of whole numbers.

func whole(n int64) *big.Int      { return big.NewInt(n) }
func minus(a *big.Int) *big.Int   { return new(big.Int).Neg(a) }
func twice(a *big.Rat) *big.Rat   { return new(big.Rat).Add(a, a) }
func rat(a *big.Int) *big.Rat     { return new(big.Rat).SetInt(a) }
func floorOf(a *big.Rat) *big.Int { return new(big.Int).Div(a.Num(), a.Denom()) } // big.Int's Div leaves a rest from 0 on

func ceilOf(a *big.Rat) *big.Int { return minus(floorOf(new(big.Rat).Neg(a))) }

func truncOf(a *big.Rat) *big.Int {
	if a.Sign() < 0 {
		return ceilOf(a)
	}
	return floorOf(a)
}

func signOf(a *big.Rat) *big.Int { return whole(int64(a.Sign())) }

// nearest tells the whole number nearest to a, and, if two are as near, the one that chosen picks.
func nearest(a *big.Rat, chosen func(low, high *big.Int) *big.Int) *big.Int {
	low := floorOf(a)
	high := new(big.Int).Add(low, whole(1))
	over := new(big.Rat).Sub(a, rat(low))
	switch twice(over).Cmp(rat(whole(1))) {
	case -1:
		return low
	case 1:
		return high
	}
	return chosen(low, high)
}

func evenOf(a *big.Rat) *big.Int {
	return nearest(a, func(low, high *big.Int) *big.Int {
		if low.Bit(0) == 0 {
			return low
		}
		return high
	})
}

func awayOf(a *big.Rat) *big.Int {
	return nearest(a, func(low, high *big.Int) *big.Int {
		if low.CmpAbs(high) > 0 {
			return low
		}
		return high
	})
}

// firstValue tells the least value of a step over a set that begins at a: of a itself, if it is an
// element, else of the reals next to it, among which the step does not change up to a half.
func firstValue(a limit, step func(*big.Rat) *big.Int) limit {
	if a.infinity != 0 {
		return a
	}
	x, _ := a.num.Rat(nil) // the ends here are numbers, den is 1
	if !a.in {
		half := new(big.Rat).SetFrac(new(big.Int).Add(floorOf(twice(x)), whole(1)), whole(2))
		x = new(big.Rat).Mul(new(big.Rat).Add(x, half), big.NewRat(1, 2))
	}
	return limit{0, room().SetInt(step(x)), exactly(1), true}
}

// values tells the values of a step over a set, of which none between the first and the last is left
// out. The signs of reals toward the infinities are -1 and 1.
func (f operation) values(v span) span {
	turned := func(a *big.Rat) *big.Int { return minus(f.step(new(big.Rat).Neg(a))) }
	out := span{firstValue(v.lo, f.step), firstValue(v.hi.minus(), turned).minus()}
	if f.op == api.OpSign && out.lo.infinity != 0 {
		out.lo = end(-1, true)
	}
	if f.op == api.OpSign && out.hi.infinity != 0 {
		out.hi = end(1, true)
	}
	return out
}

// wholeBetween tells whether a whole number lies between two ends, of which none is a fraction, and in c.
func wholeBetween(s, c span) bool {
	lo, hi := s.lo, s.hi
	if up := firstValue(c.lo, ceilOf); order(lo, up) < 0 {
		lo = up
	}
	if down := firstValue(c.hi.minus(), ceilOf).minus(); order(down, hi) < 0 {
		hi = down
	}
	return order(lo, hi) <= 0
}

// sets tells what intervals denote, and whether one is read as Empty.
func sets(args []api.Interval) (out []span, none bool) {
	for _, x := range args {
		y, nothing := taken(x)
		none = none || nothing
		out = append(out, of(y))
	}
	return out, none
}

func reads(args []api.Interval) []api.Interval {
	out := make([]api.Interval, len(args))
	for i, x := range args {
		out[i] = read(x)
	}
	return out
}

func finite(x api.Interval) bool { return !math.IsInf(x.Lo, 0) && !math.IsInf(x.Hi, 0) }

// local tells the local decoration, y being the least interval that holds the range.
func (f operation) local(args []api.Interval, y api.Interval) int {
	args = reads(args)
	bounded := finite(y)
	for _, x := range args {
		if x == empty {
			return api.Trv
		}
		bounded = bounded && finite(x)
	}
	if f.gap(args) {
		return api.Trv
	}
	if f.step != nil {
		if v := f.values(of(args[0])); order(v.lo, v.hi) != 0 {
			return api.Def
		}
	}
	if bounded {
		return api.Com
	}
	return api.Dac
}

// checkLocal: P11.3.
func (f operation) checkLocal(t *testing.T, args ...api.Interval) {
	t.Helper()
	y, d := deco.Local(f.op, f.n, args...)
	if a, none := sets(args); none {
		is(t, y, empty, "%s %d of %x", f.name, f.n, args)
	} else {
		checkLeast(t, y, of(entire), func(v span) bool { return f.meets(a, v) }, "%s %d of %x", f.name, f.n, args)
	}
	if want := f.local(args, y); d != want {
		t.Errorf("%s %d of %x is %x, %d, want %d", f.name, f.n, args, y, d, want)
	}
}

// checkBack: P11.6.
func (f operation) checkBack(t *testing.T, place int, c, x api.Interval, others ...api.Interval) {
	t.Helper()
	got, ok := deco.Back(f.op, f.n, place, c, x, others...)
	if !ok {
		t.Errorf("%s %d, %d: %x, %x, %x: false", f.name, f.n, place, c, x, others)
	}
	a, none := sets(append([]api.Interval{c, x}, others...))
	if none {
		is(t, got, empty, "%s %d, %d: %x, %x, %x", f.name, f.n, place, c, x, others)
		return
	}
	asked := func(v span) bool {
		all := append(append(append([]span{}, a[2:2+place]...), v), a[2+place:]...)
		return f.meets(all, a[0])
	}
	checkLeast(t, got, a[1], asked, "%s %d, %d: %x, %x, %x", f.name, f.n, place, c, x, others)
}

// Decorated ones.

var nai = api.Deco{X: empty, D: api.Ill}

func dv(lo, hi float64, d int) api.Deco { return api.Deco{X: iv(lo, hi), D: d} }

// readDeco tells a decorated interval as the document reads it.
func readDeco(x api.Deco) api.Deco {
	y := iv(x.X.Lo+0, x.X.Hi+0)
	known := x.D == api.Trv || x.D == api.Def || x.D == api.Dac || x.D == api.Com
	switch {
	case !known || !right(y):
		return nai
	case y == empty:
		return api.Deco{X: empty, D: api.Trv}
	case x.D == api.Com && !finite(y):
		return api.Deco{X: y, D: api.Dac}
	}
	return api.Deco{X: y, D: x.D}
}

// rightDeco tells whether a decorated interval is valid, by the document's words.
func rightDeco(x api.Deco) bool {
	if x == nai {
		return true
	}
	if !right(x.X) {
		return false
	}
	switch x.D {
	case api.Trv:
		return true
	case api.Def, api.Dac:
		return x.X != empty
	case api.Com:
		return x.X != empty && finite(x.X)
	}
	return false
}

// barely tells intervals of decorated ones as they are read, the weakest decoration, and whether one is
// read as NaI.
func barely(args []api.Deco) (xs []api.Interval, weakest int, ill bool) {
	weakest = api.Com
	for _, x := range args {
		x = readDeco(x)
		ill = ill || x == nai
		xs, weakest = append(xs, x.X), min(weakest, x.D)
	}
	return xs, weakest, ill
}

// checkApply: P11.4.
func (f operation) checkApply(t *testing.T, args ...api.Deco) {
	t.Helper()
	want := nai
	if xs, weakest, ill := barely(args); !ill {
		y, _ := deco.Local(f.op, f.n, xs...)
		want = api.Deco{X: y, D: min(weakest, f.local(xs, y))}
	}
	isDeco(t, deco.Apply(f.op, f.n, args...), want, "%s %d of %x", f.name, f.n, args)
}

// checkBackDeco: P11.6's second part.
func (f operation) checkBackDeco(t *testing.T, place int, c, x api.Deco, others ...api.Deco) {
	t.Helper()
	want := nai
	if xs, _, ill := barely(append([]api.Deco{c, x}, others...)); !ill {
		y, _ := deco.Back(f.op, f.n, place, xs[0], xs[1], xs[2:]...)
		want = api.Deco{X: y, D: api.Trv}
	}
	isDeco(t, deco.BackDeco(f.op, f.n, place, c, x, others...), want, "%s %d, %d: %x, %x, %x", f.name, f.n, place, c, x, others)
}
