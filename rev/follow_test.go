package rev_test

import (
	"sync"
	"testing"

	"verge/api"
	"verge/ival"
	"verge/rel"
	"verge/rev"
)

// P10.4

// eachAsking hands out arguments of a call: of a few ends, by chance, and x that touches.
func eachAsking(seed dice, f call, times int, try func(x api.Interval, others []api.Interval)) {
	d := seed
	for _, args := range [][]api.Interval{list(f.others+1, ival.Entire), list(f.others+1, ival.Empty)} {
		try(args[0], args[1:])
	}
	for range times {
		others := list(f.others, d.interval)
		try(d.interval(), others)
		try(entire, others)
		try(d.wild(), list(f.others, d.wild))
		for _, end := range f.ends(others) {
			try(d.touching(end), others)
		}
	}
}

func lies(x, y api.Interval) bool { return x == empty || y.Lo <= x.Lo && x.Hi <= y.Hi }

func TestAnswersLieInX(t *testing.T) {
	for _, f := range calls() {
		eachAsking(10040, f, 200, func(x api.Interval, others []api.Interval) {
			if got := f.got(others, x); !right(got) || !lies(got, read(x)) {
				t.Errorf("%s(%x, %x) = %x", f.name, others, x, got)
			}
		})
	}
}

func TestAskedAgain(t *testing.T) {
	for _, f := range calls() {
		eachAsking(10041, f, 200, func(x api.Interval, others []api.Interval) {
			once := f.got(others, x)
			is(t, f.got(others, once), once, "%s(%x, %x)", f.name, others, once)
		})
	}
}

// grown tells an interval that holds another one.
func (d *dice) grown(x api.Interval) api.Interval {
	x = read(x)
	switch d.below(4) {
	case 0:
		x.Lo = below(x.Lo)
	case 1:
		x.Hi = above(x.Hi)
	case 2:
		x = rel.Hull(x, d.interval())
	}
	return read(x)
}

func TestGrowingArguments(t *testing.T) {
	d := dice(10042)
	for _, f := range calls() {
		eachAsking(10043, f, 200, func(x api.Interval, others []api.Interval) {
			wider := make([]api.Interval, len(others))
			for i, other := range others {
				wider[i] = d.grown(other)
			}
			if got, wide := f.got(others, x), f.got(wider, d.grown(x)); !lies(got, wide) {
				t.Errorf("%s(%x, %x) = %x; wider arguments tell %x", f.name, others, x, got, wide)
			}
		})
	}
}

func TestByOtherCalls(t *testing.T) {
	neg := ival.Neg
	nought, unit := iv(0, 0), iv(1, 1)
	for _, f := range binaries() {
		eachAsking(10044, f, 300, func(x api.Interval, others []api.Interval) {
			b, c := others[0], others[1]
			is(t, rev.AddRev(b, c, x), rev.SubRev1(neg(b), c, x), "AddRev(%x, %x, %x)", b, c, x)
			is(t, rev.SubRev2(b, c, x), rev.AddRev(neg(b), neg(c), x), "SubRev2(%x, %x, %x)", b, c, x)
			is(t, rev.FMARev(b, nought, c, x), rev.MulRev(b, c, x), "FMARev(%x, {0}, %x, %x)", b, c, x)
			is(t, rev.FMARevAdd(unit, b, c, x), rev.AddRev(b, c, x), "FMARevAdd({1}, %x, %x, %x)", b, c, x)
			is(t, rev.MaxRev(b, c, x), neg(rev.MinRev(neg(b), neg(c), neg(x))), "MaxRev(%x, %x, %x)", b, c, x)
			is(t, rev.PownRev(1, c, x), rel.Intersect(c, x), "PownRev(1, %x, %x)", c, x)
			is(t, rev.PownRev(2, c, x), rev.SqrRev(c, x), "PownRev(2, %x, %x)", c, x)
			is(t, rev.PownRev(-1, c, x), rev.RecipRev(c, x), "PownRev(-1, %x, %x)", c, x)
			is(t, rev.CeilRev(c, x), neg(rev.FloorRev(neg(c), neg(x))), "CeilRev(%x, %x)", c, x)
			is(t, rev.CancelPlus(x, c), rev.CancelMinus(x, neg(c)), "CancelPlus(%x, %x)", x, c)
		})
	}
}

func TestPartsOfAPair(t *testing.T) {
	try := func(b, c api.Interval) {
		lower, upper := rev.MulPair(b, c)
		is(t, rev.MulRev(b, c, entire), rel.Hull(lower, upper), "MulRev(%x, %x, Entire)", b, c)
		if lower != empty && upper != empty && (lower.Hi > 0 || upper.Lo < 0) {
			t.Errorf("MulPair(%x, %x) = %x, %x", b, c, lower, upper)
		}
	}
	eachList(2, crossed(edges()), func(list []api.Interval) { try(list[0], list[1]) })
	d := dice(10045)
	for range 5000 {
		try(d.interval(), d.interval())
		try(d.wild(), d.wild())
	}
}

func TestCancelHolds(t *testing.T) {
	try := func(x, y api.Interval) {
		got := rev.CancelMinus(x, y)
		if !right(got) || read(y) != empty && !lies(read(x), ival.Add(y, got)) {
			t.Errorf("CancelMinus(%x, %x) = %x", x, y, got)
		}
	}
	eachList(2, crossed(edges()), func(list []api.Interval) { try(list[0], list[1]) })
	d := dice(10046)
	for range 5000 {
		x := d.interval()
		try(x, d.interval())
		try(x, iv(d.beside(x.Lo), d.beside(x.Hi)))
		try(d.wild(), d.wild())
	}
}

// R4: the answers hang on nothing but the arguments.
func TestManyAtATime(t *testing.T) {
	var group sync.WaitGroup
	for range 8 {
		group.Go(func() {
			d := dice(10047)
			for range 10 {
				for _, f := range calls() {
					others := list(f.others, d.interval)
					f.check(t, d.interval(), others...)
					for _, end := range f.ends(others) {
						f.check(t, d.touching(end), others...)
					}
				}
				checkMulPair(t, d.interval(), d.interval())
				checkCancel(t, d.interval(), d.interval())
			}
		})
	}
	group.Wait()
}
