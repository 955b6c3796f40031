package deco_test

import (
	"math"
	"sync"
	"testing"

	"verge/api"
	"verge/deco"
)

// P11.7, R3 and R4.

// eachAsking hands out arguments of an operation, decorated: by chance, of any bits, of a few ends.
func eachAsking(seed dice, f operation, times int, try func(args []api.Deco)) {
	d := seed
	var few []api.Deco
	for _, x := range []api.Interval{entire, empty, iv(1, 1.25), iv(-1, 0), iv(2, 1), iv(greatest, greatest)} {
		few = append(few, api.Deco{X: x, D: api.Com})
	}
	eachList(f.operands, few, try)
	for range times {
		try(list(f.operands, d.decorated))
		try(list(f.operands, d.strange))
	}
}

func TestAnswersAreValid(t *testing.T) {
	d := dice(11040)
	valid := func(f operation, args []api.Deco, answers ...api.Deco) {
		for _, x := range answers {
			if !rightDeco(x) {
				t.Errorf("%s %d of %x: %x", f.name, f.n, args, x)
			}
		}
	}
	for _, f := range append(operations(), power(1025), power(-1025)) {
		eachAsking(11041, f, 500, func(args []api.Deco) {
			x, y := d.strange(), d.decorated()
			lower, upper := deco.MulPair(x, args[0])
			valid(f, args, deco.Apply(f.op, f.n, args...), deco.BackDeco(f.op, f.n, 0, x, y, args[1:]...), deco.New(x.X), deco.Set(x.X, x.D), deco.Read(x),
				deco.Intersect(x, args[0]), deco.Hull(args[0], x), deco.CancelMinus(args[0], y), deco.CancelPlus(y, args[0]), lower, upper)
			xs := make([]api.Interval, len(args))
			for i := range args {
				xs[i] = args[i].X
			}
			values, _ := deco.Local(f.op, f.n, xs...)
			left, _ := deco.Back(f.op, f.n, 0, x.X, y.X, xs[1:]...)
			if !right(values) || !right(left) {
				t.Errorf("%s %d of %x: %x, %x", f.name, f.n, args, values, left)
			}
		})
	}
}

// What is made by New is as sure as the operation itself.
func TestApplyOfNew(t *testing.T) {
	for _, f := range append(operations(), power(1025), power(-1025)) {
		eachAsking(11042, f, 500, func(args []api.Deco) {
			xs, made := make([]api.Interval, len(args)), make([]api.Deco, len(args))
			for i, x := range args {
				xs[i], made[i] = x.X, deco.New(x.X)
				if !right(x.X) {
					return
				}
			}
			y, d := deco.Local(f.op, f.n, xs...)
			isDeco(t, deco.Apply(f.op, f.n, made...), api.Deco{X: y, D: d}, "%s %d of %x", f.name, f.n, made)
		})
	}
}

// Weaker arguments: the same interval, and no decoration that is stronger than theirs.
func TestWeakerArguments(t *testing.T) {
	for _, f := range append(operations(), power(1025), power(-1025)) {
		eachAsking(11043, f, 300, func(args []api.Deco) {
			strong := deco.Apply(f.op, f.n, args...)
			if strong == nai {
				return
			}
			for at := range args {
				for _, d := range ranks() {
					if d > args[at].D {
						continue
					}
					weak := append([]api.Deco{}, args...)
					weak[at].D = d
					got := deco.Apply(f.op, f.n, weak...)
					is(t, got.X, strong.X, "%s %d of %x", f.name, f.n, weak)
					if got.D > d || got.D > strong.D || got.D < min(d, strong.D, deco.Read(weak[at]).D) {
						t.Errorf("%s %d of %x: %d, of %x: %d", f.name, f.n, weak, got.D, args, strong.D)
					}
				}
			}
		})
	}
}

func TestReadAgain(t *testing.T) {
	d := dice(11044)
	for range 20000 {
		x := deco.Read(d.strange())
		isDeco(t, deco.Read(x), x, "Read(%x)", x)
		isDeco(t, deco.Set(x.X, x.D), x, "Set(%x)", x)
	}
}

// R3: what is handed in stays as it was, spare room too.

func bitsOf(x api.Deco) [3]uint64 {
	return [3]uint64{math.Float64bits(x.X.Lo), math.Float64bits(x.X.Hi), uint64(x.D)}
}

func TestArgumentsStay(t *testing.T) {
	d := dice(11045)
	for _, f := range operations() {
		for range 50 {
			room, decos := list(8, d.wild), list(8, d.strange)
			bare, dressed := append([]api.Interval{}, room...), append([]api.Deco{}, decos...)
			for count := range 5 {
				deco.Local(f.op, f.n, room[:count]...)
				deco.Apply(f.op, f.n, decos[:count]...)
				deco.Back(f.op, f.n, 0, room[6], room[7], room[:count]...)
				deco.BackDeco(f.op, f.n, 0, decos[6], decos[7], decos[:count]...)
			}
			for i := range room {
				if !same(room[i], bare[i]) {
					t.Errorf("%s: an interval became %x", f.name, room[i])
				}
				if bitsOf(decos[i]) != bitsOf(dressed[i]) {
					t.Errorf("%s: a decorated one became %x", f.name, decos[i])
				}
			}
		}
	}
}

// R4: the answers hang on nothing but the arguments.
func TestManyAtATime(t *testing.T) {
	args := []api.Deco{dv(1, 2, api.Com), dv(3, 4, api.Com), dv(5, 6, api.Com)} // shared by all
	var group sync.WaitGroup
	for range 8 {
		group.Go(func() {
			d := dice(11046)
			for range 20 {
				for _, f := range operations() {
					f.checkLocal(t, list(f.operands, d.interval)...)
					f.checkApply(t, list(f.operands, d.decorated)...)
					f.checkApply(t, args[:f.operands]...)
					f.checkBack(t, f.operands-1, d.interval(), d.interval(), list(f.operands-1, d.interval)...)
					f.checkBackDeco(t, 0, args[0], args[1], args[:f.operands-1]...)
				}
			}
		})
	}
	group.Wait()
}
