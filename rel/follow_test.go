package rel_test

import (
	"sync"
	"testing"

	"verge/api"
	"verge/rel"
)

// P9.6

func TestOrderOfArguments(t *testing.T) {
	eachTwo(9010, func(x, y api.Interval) {
		is(t, rel.Intersect(y, x), rel.Intersect(x, y), "Intersect(%x, %x)", y, x)
		is(t, rel.Hull(y, x), rel.Hull(x, y), "Hull(%x, %x)", y, x)
		holds(t, rel.Equal(y, x), rel.Equal(x, y), "Equal(%x, %x)", y, x)
		holds(t, rel.Disjoint(y, x), rel.Disjoint(x, y), "Disjoint(%x, %x)", y, x)
	})
}

func TestGroupsOfThree(t *testing.T) {
	eachThree(9011, func(x, y, z api.Interval) {
		is(t, rel.Intersect(rel.Intersect(x, y), z), rel.Intersect(x, rel.Intersect(y, z)), "Intersect of %x, %x, %x", x, y, z)
		is(t, rel.Hull(rel.Hull(x, y), z), rel.Hull(x, rel.Hull(y, z)), "Hull of %x, %x, %x", x, y, z)
	})
}

func TestSubsetByTheOthers(t *testing.T) {
	eachTwo(9012, func(x, y api.Interval) {
		in := rel.Subset(x, y)
		holds(t, rel.Intersect(x, y) == read(x), in, "Intersect(%x, %x) is the first", x, y)
		holds(t, rel.Hull(x, y) == read(y), in, "Hull(%x, %x) is the second", x, y)
	})
}

func TestSubsetIsAPartialOrder(t *testing.T) {
	eachTwo(9013, func(x, y api.Interval) {
		holds(t, rel.Subset(x, x), true, "Subset(%x, %x)", x, x)
		holds(t, rel.Subset(x, y) && rel.Subset(y, x), read(x) == read(y), "Subset of %x and %x, both ways,", x, y)
	})
	eachThree(9014, func(x, y, z api.Interval) {
		if rel.Subset(x, y) && rel.Subset(y, z) && !rel.Subset(x, z) {
			t.Errorf("Subset(%x, %x) is false, by way of %x it is true", x, z, y)
		}
	})
}

func TestMeetAndJoin(t *testing.T) {
	eachThree(9015, func(x, y, z api.Interval) {
		holds(t, rel.Subset(z, rel.Intersect(x, y)), rel.Subset(z, x) && rel.Subset(z, y), "Subset(%x, what %x and %x have in common)", z, x, y)
		holds(t, rel.Subset(rel.Hull(x, y), z), rel.Subset(x, z) && rel.Subset(y, z), "Subset(the hull of %x and %x, %x)", x, y, z)
	})
}

func TestEqualAndDisjointByTheOthers(t *testing.T) {
	eachTwo(9016, func(x, y api.Interval) {
		holds(t, rel.Equal(x, y), read(x) == read(y), "Equal(%x, %x)", x, y)
		holds(t, rel.Disjoint(x, y), rel.Intersect(x, y) == empty, "Disjoint(%x, %x)", x, y)
	})
}

func TestOverlapAcross(t *testing.T) {
	across := map[int]int{api.BothEmpty: api.BothEmpty, api.FirstEmpty: api.SecondEmpty, api.SecondEmpty: api.FirstEmpty}
	for _, row := range overlaps() {
		across[row.is] = row.mirrors
	}
	eachTwo(9017, func(x, y api.Interval) {
		if one, two := rel.Overlap(x, y), rel.Overlap(y, x); two != across[one] {
			t.Errorf("Overlap(%x, %x) = %d, the other way %d", x, y, one, two)
		}
	})
}

func TestPartsOfABisect(t *testing.T) {
	try := func(x api.Interval) {
		l, r, ok := rel.Bisect(x)
		if !ok {
			return
		}
		x = read(x)
		for _, part := range []api.Interval{l, r} {
			if !right(part) || part == x || part == empty || !rel.Subset(part, x) {
				t.Errorf("Bisect(%x) tells %x", x, part)
			}
		}
		is(t, rel.Hull(l, r), x, "the hull of %x and %x", l, r)
		holds(t, rel.IsSingleton(rel.Intersect(l, r)), true, "that %x and %x have one number in common", l, r)
	}
	eachPattern(9018, try)
	d := dice(9019)
	for range 10000 {
		try(d.interval())
	}
}

// R4: the answers hang on nothing but the arguments.
func TestManyAtATime(t *testing.T) {
	var group sync.WaitGroup
	for range 8 {
		group.Go(func() {
			d := dice(9020)
			for range 300 {
				x := d.interval()
				checkAlone(t, x)
				checkRelations(t, x, d.other(x))
				checkSets(t, x, d.other(x))
			}
		})
	}
	group.Wait()
}
