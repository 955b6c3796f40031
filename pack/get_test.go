package pack_test

import (
	"bytes"
	"math"
	"testing"

	"verge/api"
)

// P13.2

func TestGetAnyInterval(t *testing.T) {
	eachInterval(50000, 13010, func(x api.Interval) { checkGet(t, raw(x)) })
}

func TestGetAnyBytes(t *testing.T) {
	d := dice(13011)
	for range 50000 {
		checkGet(t, d.bytes(16))
		checkGetDeco(t, d.bytes(17))
		checkGetDeco(t, append(raw(d.interval()), byte(d.below(20))))
	}
}

// Of no bytes to far more than a form has: of noughts, of forms and what follows or is left of them.
func TestEachLength(t *testing.T) {
	refused(t, nil)
	refusedDeco(t, nil)
	for _, begin := range [][]byte{nil, oneTwo(), emptyForm(), oneUp(), joined(oneTwo(), of("10")), joined(emptyForm(), of("00")), joined(emptyForm(), of("04"))} {
		for n := range 70 {
			b := joined(begin, make([]byte, 70))[:n]
			checkGet(t, b)
			checkGetDeco(t, b)
			if n != 16 {
				refused(t, b)
			}
			if n != 17 {
				refusedDeco(t, b)
			}
			checkGet(t, b[:n:n])
			checkGetDeco(t, b[:n:n])
		}
	}
	for _, n := range []int{256, 256 + 16, 256 + 17, 65536 + 16, 65536 + 17} { // that end in the right one's byte
		refused(t, make([]byte, n))
		refusedDeco(t, bytes.Repeat([]byte{4}, n))
	}
}

// Any byte in any place of a form.
func TestEachByte(t *testing.T) {
	for _, x := range []api.Interval{iv(1, 2), iv(0, 0), iv(1, inf), iv(-inf, -1), entire, empty, iv(-greatest, -least), iv(least, 0x1p-1022), iv(1, 1)} {
		for _, rank := range []byte{0, 4, 8, 12, 16} {
			b := append(raw(x), rank)
			for at := range b {
				kept := b[at]
				for c := range 256 {
					b[at] = byte(c)
					checkGet(t, b[:16])
					checkGetDeco(t, b)
				}
				b[at] = kept
			}
		}
	}
}

// Any byte as a decoration's number, by the chapter's own words.
func TestEachRank(t *testing.T) {
	for _, row := range []struct {
		x     api.Interval
		ranks []int
	}{
		{empty, []int{0, 4}},
		{iv(1, inf), []int{4, 8, 12}}, {iv(-inf, 1), []int{4, 8, 12}}, {iv(-inf, 0), []int{4, 8, 12}}, {entire, []int{4, 8, 12}},
		{iv(1, 2), []int{4, 8, 12, 16}}, {iv(0, 0), []int{4, 8, 12, 16}}, {iv(-greatest, greatest), []int{4, 8, 12, 16}},
		{iv(2, 1), nil}, {iv(nan, 1), nil}, {iv(1, nan), nil}, {iv(nan, nan), nil}, {iv(signed, 1), nil}, {iv(-1, signed), nil}, {iv(inf, inf), nil}, {iv(-inf, -inf), nil}, {iv(inf, 0), nil}, {iv(0, -inf), nil},
	} {
		may := map[int]bool{}
		for _, rank := range row.ranks {
			may[rank] = true
		}
		for rank := range 256 {
			b := append(raw(row.x), byte(rank))
			if may[rank] {
				getsDeco(t, b, api.Deco{X: row.x, D: rank})
			} else {
				refusedDeco(t, b)
			}
		}
	}
}

// The two ends changed about: no form, but where they are one.
func TestEndsChangedAbout(t *testing.T) {
	for _, lo := range numbers() {
		for _, hi := range numbers() {
			if lo < hi {
				gets(t, raw(iv(lo, hi)), iv(lo, hi))
				refused(t, raw(iv(hi, lo)))
				refusedDeco(t, append(raw(iv(hi, lo)), api.Trv))
			}
		}
		gets(t, raw(iv(lo, lo)), iv(lo, lo))
		gets(t, raw(iv(-inf, lo)), iv(-inf, lo))
		gets(t, raw(iv(lo, inf)), iv(lo, inf))
	}
	gets(t, raw(entire), entire)
	gets(t, raw(empty), empty)
}

// What is no valid interval has no form, though it would be read as one.
func TestNothingIsReadAsAnother(t *testing.T) {
	others := append(numbers(), -inf, inf)
	no := func(x api.Interval) {
		refused(t, raw(x))
		for _, rank := range []byte{0, 4, 8, 12, 16} {
			refusedDeco(t, append(raw(x), rank))
		}
		refusedBox(t, rawBox([]api.Interval{x}))
	}
	for _, wrong := range append(nans(), signed) {
		for _, other := range append(others, strange()...) {
			no(iv(wrong, other))
			no(iv(other, wrong))
		}
	}
	for _, x := range numbers() {
		no(iv(inf, x))
		no(iv(x, -inf))
	}
	no(iv(inf, inf))
	no(iv(-inf, -inf))
}

func TestNaNOfAnyBits(t *testing.T) {
	d := dice(13012)
	for range 20000 {
		wrong := math.Float64frombits(d.next() | 0x7ff<<52 | 1<<d.below(52))
		other := d.end()
		for _, x := range []api.Interval{iv(wrong, other), iv(other, wrong), iv(wrong, wrong)} {
			refused(t, raw(x))
			refusedDeco(t, append(raw(x), pick(&d, byte(0), 4, 8, 12, 16)))
		}
	}
}
