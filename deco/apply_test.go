package deco_test

import (
	"testing"

	"verge/api"
	"verge/deco"
	"verge/rel"
	"verge/rev"
)

// P11.4 and P11.5.

func TestApplyByChance(t *testing.T) {
	d := dice(11020)
	for _, f := range operations() {
		for range 1000 {
			f.checkApply(t, list(f.operands, d.decorated)...)
			f.checkApply(t, list(f.operands, d.strange)...)
		}
	}
}

// Arguments of every decoration, over which each operation has each local one.
func TestApplyToEveryDecoration(t *testing.T) {
	var few []api.Deco
	for _, x := range []api.Interval{iv(1, 1.25), iv(0.5, 2), iv(-1, 3), iv(2, inf), empty} {
		for _, d := range ranks() {
			few = append(few, api.Deco{X: x, D: d})
		}
	}
	for _, f := range operations() {
		eachList(f.operands, few, func(list []api.Deco) { f.checkApply(t, list...) })
	}
}

// NaI as each argument, whatever the others are.
func TestApplyToNaI(t *testing.T) {
	d := dice(11021)
	for _, f := range append(operations(), power(1025), power(-1025)) {
		for at := range f.operands {
			for _, ill := range ills() {
				for range 4 {
					args := list(f.operands, d.decorated)
					args[at] = ill
					isDeco(t, deco.Apply(f.op, f.n, args...), nai, "%s %d of %x", f.name, f.n, args)
				}
			}
		}
	}
}

func TestApplyWrongNumbers(t *testing.T) {
	d := dice(11022)
	for _, f := range operations() {
		for count := range 6 {
			if count != f.operands {
				isDeco(t, deco.Apply(f.op, f.n, list(count, d.decorated)...), nai, "%s with %d arguments", f.name, count)
			}
		}
	}
	for _, op := range strangers() {
		for count := range 5 {
			isDeco(t, deco.Apply(op, 0, list(count, d.decorated)...), nai, "operation %d with %d arguments", op, count)
		}
	}
}

// Beyond the limits of powers nothing is sure, however strong the argument is.
func TestApplyPowersBeyond(t *testing.T) {
	for _, n := range beyond() {
		for _, d := range ranks() {
			isDeco(t, deco.Apply(api.OpPown, n, dv(1, 1, d)), api.Deco{X: entire, D: api.Trv}, "Pown %d of {1, 1}", n)
			isDeco(t, deco.Apply(api.OpPown, n, api.Deco{X: empty, D: d}), api.Deco{X: empty, D: api.Trv}, "Pown %d of Empty", n)
		}
	}
}

func TestApplyWrittenOut(t *testing.T) {
	for _, row := range []struct{ got, want api.Deco }{
		{deco.Apply(api.OpAdd, 0, dv(1, 2, api.Com), dv(3, 4, api.Com)), dv(4, 6, api.Com)},
		{deco.Apply(api.OpAdd, 0, dv(1, 2, api.Dac), dv(3, 4, api.Com)), dv(4, 6, api.Dac)},
		{deco.Apply(api.OpAdd, 0, dv(1, 2, api.Trv), dv(3, 4, api.Def)), dv(4, 6, api.Trv)},
		{deco.Apply(api.OpAdd, 0, dv(1, inf, api.Com), dv(3, 4, api.Com)), dv(4, inf, api.Dac)},
		{deco.Apply(api.OpAdd, 0, dv(greatest, greatest, api.Com), dv(greatest, greatest, api.Com)), dv(greatest, inf, api.Dac)},
		{deco.Apply(api.OpAdd, 0, dv(2, 1, api.Com), dv(3, 4, api.Com)), nai},
		{deco.Apply(api.OpAdd, 0, dv(1, 2, 5), dv(3, 4, api.Com)), nai},
		{deco.Apply(api.OpSub, 0, dv(1, 2, api.Com), dv(3, 5, api.Com)), dv(-4, -1, api.Com)},
		{deco.Apply(api.OpFloor, 0, dv(1, 1.5, api.Com)), dv(1, 1, api.Com)},
		{deco.Apply(api.OpFloor, 0, dv(0.5, 1, api.Com)), dv(0, 1, api.Def)},
		{deco.Apply(api.OpFloor, 0, dv(0.5, 1, api.Trv)), dv(0, 1, api.Trv)},
		{deco.Apply(api.OpSqrt, 0, dv(-1, 4, api.Com)), dv(0, 2, api.Trv)},
		{deco.Apply(api.OpSqrt, 0, dv(-2, -1, api.Com)), api.Deco{X: empty, D: api.Trv}},
		{deco.Apply(api.OpFMA, 0, dv(1, 2, api.Com), dv(3, 4, api.Dac), dv(5, 6, api.Def)), dv(8, 14, api.Def)},
		{deco.Apply(api.OpId, 0, api.Deco{X: empty, D: api.Com}), api.Deco{X: empty, D: api.Trv}},
		{deco.Apply(api.OpId, 0), nai},
		{deco.Apply(api.OpConst, 0, dv(1, 2, api.Com)), nai},
	} {
		isDeco(t, row.got, row.want, "an operation")
	}
}

// The calls of P11.5 that answer one interval, and what they are of bare ones.
type joining struct {
	name string
	got  func(x, y api.Deco) api.Deco
	bare func(x, y api.Interval) api.Interval
}

func joinings() []joining {
	lower := func(b, c api.Deco) api.Deco { x, _ := deco.MulPair(b, c); return x }
	upper := func(b, c api.Deco) api.Deco { _, x := deco.MulPair(b, c); return x }
	low := func(b, c api.Interval) api.Interval { x, _ := rev.MulPair(b, c); return x }
	high := func(b, c api.Interval) api.Interval { _, x := rev.MulPair(b, c); return x }
	return []joining{{"Intersect", deco.Intersect, rel.Intersect}, {"Hull", deco.Hull, rel.Hull},
		{"CancelMinus", deco.CancelMinus, rev.CancelMinus}, {"CancelPlus", deco.CancelPlus, rev.CancelPlus},
		{"MulPair's lower", lower, low}, {"MulPair's upper", upper, high}}
}

func (f joining) check(t *testing.T, x, y api.Deco) {
	t.Helper()
	want := nai
	if xs, _, ill := barely([]api.Deco{x, y}); !ill {
		want = api.Deco{X: f.bare(xs[0], xs[1]), D: api.Trv}
	}
	isDeco(t, f.got(x, y), want, "%s(%x, %x)", f.name, x, y)
}

func TestJoinings(t *testing.T) {
	d := dice(11023)
	few := append(ills(), api.Deco{X: empty, D: api.Trv}, api.Deco{X: empty, D: api.Com}, api.Deco{X: entire, D: api.Com})
	for _, rank := range ranks() {
		few = append(few, dv(1, 3, rank), dv(2, 4, rank), dv(-1, 2, rank), dv(signed, 0, rank), dv(5, inf, rank))
	}
	for _, f := range joinings() {
		eachList(2, few, func(list []api.Deco) { f.check(t, list[0], list[1]) })
		for range 3000 {
			f.check(t, d.decorated(), d.decorated())
			f.check(t, d.strange(), d.strange())
			f.check(t, d.decorated(), d.strange())
			f.check(t, d.strange(), d.decorated())
		}
	}
}

func TestJoiningsWrittenOut(t *testing.T) {
	lower, upper := deco.MulPair(dv(-1, 2, api.Com), dv(1, 1, api.Com))
	only, nothing := deco.MulPair(dv(1, 2, api.Com), dv(4, 4, api.Com))
	ill, bad := deco.MulPair(dv(1, 2, api.Com), nai)
	wrong, worse := deco.MulPair(dv(2, 1, api.Com), dv(1, 2, api.Com))
	for _, row := range []struct{ got, want api.Deco }{
		{lower, dv(-inf, -1, api.Trv)}, {upper, dv(0.5, inf, api.Trv)},
		{only, dv(2, 4, api.Trv)}, {nothing, api.Deco{X: empty, D: api.Trv}},
		{ill, nai}, {bad, nai}, {wrong, nai}, {worse, nai},
		{deco.Intersect(dv(1, 2, api.Com), dv(3, 4, api.Com)), api.Deco{X: empty, D: api.Trv}},
		{deco.Intersect(dv(1, 2, api.Com), dv(2, 1, api.Com)), nai},
		{deco.Hull(dv(1, 2, api.Com), dv(5, 6, api.Com)), dv(1, 6, api.Trv)},
		{deco.Hull(nai, dv(5, 6, api.Com)), nai},
		{deco.CancelMinus(dv(1, 5, api.Com), dv(0, 2, api.Com)), dv(1, 3, api.Trv)},
		{deco.CancelMinus(dv(0, 2, api.Com), dv(1, 5, api.Com)), api.Deco{X: entire, D: api.Trv}},
		{deco.CancelPlus(dv(1, 5, api.Com), dv(0, 2, api.Com)), dv(3, 5, api.Trv)},
		{deco.CancelPlus(dv(1, 5, api.Com), dv(0, 2, 17)), nai},
	} {
		isDeco(t, row.got, row.want, "one of two")
	}
}
