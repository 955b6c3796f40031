package pack_test

import (
	"testing"

	"verge/api"
)

// P13.3's GetBox

func TestGetBoxes(t *testing.T) {
	d := dice(13020)
	for n := range 36 {
		for range 60 {
			checkGetBox(t, rawBox(d.validBox(n)))
			checkGetBox(t, rawBox(d.box(n)))
			checkGetBox(t, append([]byte{byte(n)}, d.bytes(16*n)...))
		}
	}
	eachInterval(0, 0, func(x api.Interval) {
		checkGetBox(t, rawBox([]api.Interval{x}))
		checkGetBox(t, rawBox([]api.Interval{iv(1, 2), x, empty}))
	})
}

// Every first byte, ahead of every number of bytes.
func TestGetBoxOfEachLength(t *testing.T) {
	noughts := make([]byte, 1+16*256)
	for first := range 256 {
		b := joined(noughts)
		b[0] = byte(first)
		for n := range 1 + 16*35 {
			checkGetBox(t, b[:n])
		}
		right := 1 + 16*first
		for _, n := range []int{right - 16, right - 1, right, right + 1, right + 16} {
			if n < 1 || n > len(b) {
				continue
			}
			checkGetBox(t, b[:n])
			if n != right || first > 32 {
				refusedBox(t, b[:n])
			} else {
				getsBox(t, b[:n], make([]api.Interval, first)...)
			}
		}
	}
}

// More parts than a byte can count, and no bytes at all.
func TestGetBoxOfOddLengths(t *testing.T) {
	refusedBox(t, nil)
	refusedBox(t, []byte{})
	for _, first := range []byte{0, 1, 16, 32, 33} {
		for _, n := range []int{256, 256 + int(first), 257, 65536} {
			b := make([]byte, 1+16*n)
			b[0] = first
			refusedBox(t, b)
		}
	}
}

// A part that is none, in each place of boxes of each length.
func TestGetBoxWithOneWrongPart(t *testing.T) {
	d := dice(13021)
	for n := 1; n <= 32; n++ {
		for at := range n {
			box := d.validBox(n)
			getsBox(t, rawBox(box), box...)
			for _, wrong := range []api.Interval{iv(2, 1), iv(nan, 1), iv(1, nan), iv(signed, 1), iv(-1, signed), iv(inf, inf), iv(-inf, -inf)} {
				box[at] = wrong
				refusedBox(t, rawBox(box))
			}
		}
	}
}

// Each part stands in its own place.
func TestGetBoxByHand(t *testing.T) {
	b := joined(of("03"), of("0807060504030201 1817161514131211"), oneTwo(), oneUp())
	getsBox(t, b, ends(of("0807060504030201 1817161514131211")), iv(1, 2), iv(1, inf))
	getsBox(t, joined(of("01"), emptyForm()), empty)
	getsBox(t, joined(of("02"), make([]byte, 32)), iv(0, 0), iv(0, 0))
}
