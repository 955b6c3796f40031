package fold_test

import (
	"testing"

	"verge/api"
	"verge/fold"
)

// The rows of the chapter's examples, with each number of workers.

func TestExamplesOfSum(t *testing.T) {
	gives(t, "Sum", iv(-1, 6.5), list{iv(1, 2), iv(3, 4), iv(-5, 0.5)})
	gives(t, "Sum", pt(0), nil)
	gives(t, "Sum", empty, list{iv(1, 2), empty})
	gives(t, "Sum", empty, list{iv(2, 1)})
	gives(t, "Sum", pt(greatest), points(greatest, greatest, -greatest))
	gives(t, "Sum", pt(least), points(1, least, -1))
	gives(t, "Sum", entire, list{iv(0, inf), iv(-inf, 1)})
}

func TestExamplesOfMagnitudes(t *testing.T) {
	gives(t, "Abs", iv(4, 8), list{iv(-3, 2), iv(-5, -4)})
	gives(t, "Squares", iv(4, 18), list{iv(-3, 2), iv(2, 3)})
	gives(t, "Squares", iv(0, least), points(least))
	gives(t, "Norm2", pt(5), points(3, 4))
	gives(t, "Norm2", iv(0x1.6a09e667f3bccp+0, 0x1.6a09e667f3bcdp+0), points(1, 1))
}

func TestExamplesOfMean(t *testing.T) {
	gives(t, "Mean", iv(2, 3), list{iv(1, 2), iv(3, 4)})
	gives(t, "Mean", iv(0x1.5555555555555p-1, 0x1.5555555555556p-1), points(1, 1, 0))
	if x, err := fold.Mean(nil, 3); err != api.ErrArg || !same(x, iv(0, 0)) {
		t.Errorf("Mean(nothing) = %v, %d", x, err)
	}
}

func TestExamplesOfDot(t *testing.T) {
	gives(t, "Dot", iv(1, 16), list{iv(1, 2), iv(3, 4)}, iv(5, 6), iv(-1, 1))
	gives(t, "Dot", pt(0), points(0), entire)
	gives(t, "Dot", pt(0), points(least, least), points(least, -least)...)
	if x, err := fold.Dot(points(1), nil, 3); err != api.ErrArg || !same(x, iv(0, 0)) {
		t.Errorf("Dot(([1, 1]), nothing) = %v, %d", x, err)
	}
}

func TestExamplesOfWorkers(t *testing.T) {
	l := list{iv(1, 2)}
	for _, w := range []int{0, 17} {
		if x, err := fold.Sum(l, w); err != api.ErrArg || !same(x, iv(0, 0)) {
			t.Errorf("Sum([1, 2]) with %d workers = %v, %d", w, x, err)
		}
	}
	if x, err := fold.Sum(l, 16); err != api.OK || !same(x, iv(1, 2)) {
		t.Errorf("Sum([1, 2]) with 16 workers = %v, %d", x, err)
	}
}
