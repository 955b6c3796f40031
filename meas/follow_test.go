package meas_test

import (
	"math/big"
	"sync"
	"testing"

	"verge/api"
	"verge/ival"
	"verge/meas"
	"verge/round"
)

// P8.7

// each hands out intervals that are not Empty, as they are read.
func each(seed dice, try func(x api.Interval)) {
	for _, x := range crossed(append(edges(), some()...)) {
		if x, none := taken(x); !none {
			try(x)
		}
	}
	for range 10000 {
		try(seed.interval())
	}
}

func TestMidIsAPoint(t *testing.T) {
	each(8010, func(x api.Interval) {
		if m := meas.Mid(x); !(x.Lo <= m && m <= x.Hi) || m < -greatest || m > greatest {
			t.Errorf("Mid(%x) = %x", x, m)
		}
	})
}

// reached tells whether all of x, which is bounded, lies from m - r to m + r.
func reached(x api.Interval, m, r float64) bool {
	from, to := less(m, r), sum(m, r)
	return from.Cmp(exact(x.Lo)) <= 0 && to.Cmp(exact(x.Hi)) >= 0
}

func TestRadReachesAllJust(t *testing.T) {
	each(8011, func(x api.Interval) {
		m, r := meas.MidRad(x)
		switch {
		case !bounded(x):
			is(t, r, inf, "Rad(%x)", x)
		case r > greatest:
			t.Errorf("Rad(%x) is +Inf, and the ends are numbers", x)
		case !reached(x, m, r):
			t.Errorf("Mid and Rad of %x, %x and %x, do not reach it", x, m, r)
		case r > 0 && reached(x, m, below(r)):
			t.Errorf("Mid(%x) = %x: less than Rad, %x, would do", x, m, r)
		}
	})
}

func TestMidRadIsBoth(t *testing.T) {
	try := func(x api.Interval) {
		m, r := meas.MidRad(x)
		is(t, m, meas.Mid(x), "MidRad(%x): mid", x)
		is(t, r, meas.Rad(x), "MidRad(%x): rad", x)
	}
	each(8012, try)
	eachPair(8013, func(lo, hi float64) { try(iv(lo, hi)) })
}

func TestWidAndRad(t *testing.T) {
	each(8014, func(x api.Interval) {
		r := meas.Rad(x)
		if w, most := meas.Wid(x), round.Add(api.Up, r, r); !(w <= most) {
			t.Errorf("Wid(%x) = %x is above %x", x, w, most)
		}
		if w := meas.Wid(x); (w == 0) != (x.Lo == x.Hi) || w < r {
			t.Errorf("Wid(%x) = %x, Rad %x", x, w, r)
		}
	})
}

func TestMagnitudesOfPoints(t *testing.T) {
	d := dice(8015)
	each(8016, func(x api.Interval) {
		low, high := meas.Mig(x), meas.Mag(x)
		for range 4 {
			if p := unsigned(d.element(x)); !(low <= p && p <= high) {
				t.Errorf("Mig and Mag of %x, %x and %x: %x is a magnitude", x, low, high, p)
			}
		}
	})
}

func TestMirrored(t *testing.T) {
	each(8017, func(x api.Interval) {
		y := iv(-x.Hi, -x.Lo)
		is(t, meas.Mid(y), 0-meas.Mid(x), "Mid(%x)", y)
		is(t, meas.Mid(ival.Neg(x)), 0-meas.Mid(x), "Mid of Neg(%x)", x)
		for _, m := range measures() {
			if m.name == "Rad" || m.name == "Wid" || m.name == "Mag" || m.name == "Mig" {
				is(t, m.got(y), m.got(x), "%s(%x)", m.name, y)
			}
		}
	})
}

func TestDistTellsTheSame(t *testing.T) {
	d := dice(8018)
	try := func(x, y api.Interval) {
		got := meas.Dist(x, y)
		is(t, meas.Dist(y, x), got, "Dist(%x, %x)", y, x)
		if (got == 0) != (x == y) || !(got >= 0) {
			t.Errorf("Dist(%x, %x) = %x", x, y, got)
		}
	}
	each(8019, func(x api.Interval) {
		try(x, x)
		try(x, d.other(x))
		try(x, d.interval())
	})
}

func TestDistByWayOfAThird(t *testing.T) {
	d := dice(8020)
	each(8021, func(x api.Interval) {
		y := d.other(x)
		for _, z := range []api.Interval{d.other(y), d.other(x), d.interval(), x} {
			most := round.Add(api.Up, meas.Dist(x, y), meas.Dist(y, z))
			if got := meas.Dist(x, z); !(got <= most) {
				t.Errorf("Dist(%x, %x) = %x is above %x, by way of %x", x, z, got, most, y)
			}
		}
	})
}

// The Hausdorff distance: no point of one lies farther from the other than Dist.
func TestDistHoldsForPoints(t *testing.T) {
	d := dice(8022)
	each(8023, func(x api.Interval) {
		y := d.other(x)
		most := meas.Dist(x, y)
		if most > greatest {
			return
		}
		for range 4 {
			if p := d.element(x); gap(p, y).Cmp(exact(most)) > 0 {
				t.Errorf("Dist(%x, %x) = %x: %x lies farther away", x, y, most, p)
			}
		}
	})
}

// gap tells how far a point lies from an interval.
func gap(p float64, y api.Interval) *big.Float {
	switch {
	case p < y.Lo:
		return less(y.Lo, p)
	case p > y.Hi:
		return less(p, y.Hi)
	}
	return exact(0)
}

// R4: the answers hang on nothing but the arguments.
func TestManyAtATime(t *testing.T) {
	var group sync.WaitGroup
	for range 8 {
		group.Go(func() {
			d := dice(8024)
			for range 300 {
				x := d.interval()
				checkAll(t, x)
				checkDist(t, x, d.other(x))
			}
		})
	}
	group.Wait()
}
