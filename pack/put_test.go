package pack_test

import (
	"bytes"
	"math"
	"testing"

	"verge/api"
	"verge/pack"
)

// P13.1, and P13.3's PutBox

func TestPutAnyInterval(t *testing.T) {
	eachInterval(50000, 13001, func(x api.Interval) { checkPut(t, x) })
}

func TestPutAnyDeco(t *testing.T) {
	d := dice(13002)
	eachInterval(20000, 13003, func(x api.Interval) {
		for _, rank := range append(ranks(), int(d.next())) {
			checkPutDeco(t, api.Deco{X: x, D: rank})
		}
	})
}

// All numbers about the decorations, and those that end in a decoration's byte.
func TestPutAnyRank(t *testing.T) {
	for _, x := range []api.Interval{iv(1, 2), iv(signed, signed), iv(1, inf), iv(-inf, 1), entire, empty, iv(2, 1), iv(nan, 1), iv(1, nan), iv(inf, inf), iv(-inf, -inf)} {
		for rank := -600; rank <= 600; rank++ {
			checkPutDeco(t, api.Deco{X: x, D: rank})
		}
		for shift := range 30 {
			for _, rank := range []int{api.Ill, api.Trv, api.Def, api.Dac, api.Com} {
				checkPutDeco(t, api.Deco{X: x, D: rank + 1<<shift})
				checkPutDeco(t, api.Deco{X: x, D: rank - 1<<shift})
			}
		}
		checkPutDeco(t, api.Deco{X: x, D: math.MinInt})
		checkPutDeco(t, api.Deco{X: x, D: math.MaxInt})
	}
}

// Each byte stands in its own place.
func TestPutByHand(t *testing.T) {
	low, high := math.Float64frombits(0x0102030405060708), math.Float64frombits(0x1112131415161718)
	form := "0807060504030201 1817161514131211"
	for _, row := range []struct {
		x    api.Interval
		want string
	}{
		{iv(low, high), form}, {iv(-high, -low), "1817161514131291 0807060504030281"}, {iv(high, low), "000000000000f07f 000000000000f0ff"},
		{entire, "000000000000f0ff 000000000000f07f"}, {iv(-inf, 0), "000000000000f0ff 0000000000000000"}, {iv(-inf, signed), "000000000000f0ff 0000000000000000"}, {iv(0, inf), "0000000000000000 000000000000f07f"},
		{iv(least, greatest), "0100000000000000 ffffffffffffef7f"}, {iv(-greatest, -least), "ffffffffffffefff 0100000000000080"}, {iv(signed, signed), "0000000000000000 0000000000000000"},
		{iv(inf, inf), "000000000000f07f 000000000000f0ff"}, {iv(-inf, -inf), "000000000000f07f 000000000000f0ff"}, {iv(nan, nan), "000000000000f07f 000000000000f0ff"}, {iv(inf, nan), "000000000000f07f 000000000000f0ff"}, {iv(inf, 0), "000000000000f07f 000000000000f0ff"},
	} {
		if b := pack.Put(row.x); !bytes.Equal(b, of(row.want)) {
			t.Errorf("Put(%x) = % x; want %s", row.x, b, row.want)
		}
	}
	for _, row := range []struct {
		x    api.Deco
		want string
	}{
		{dv(low, high, api.Com), form + "10"}, {dv(low, high, api.Dac), form + "0c"}, {dv(low, high, api.Def), form + "08"}, {dv(low, high, api.Trv), form + "04"}, {dv(low, high, api.Ill), "000000000000f07f 000000000000f0ff 00"},
		{dv(signed, 0, api.Def), "0000000000000000 0000000000000000 08"}, {dv(-inf, inf, api.Com), "000000000000f0ff 000000000000f07f 0c"}, {dv(-inf, signed, api.Com), "000000000000f0ff 0000000000000000 0c"}, {dv(-inf, 0, api.Trv), "000000000000f0ff 0000000000000000 04"},
		{api.Deco{X: empty, D: api.Def}, "000000000000f07f 000000000000f0ff 04"}, {api.Deco{X: empty, D: 5}, "000000000000f07f 000000000000f0ff 00"}, {dv(nan, 1, api.Trv), "000000000000f07f 000000000000f0ff 00"}, {dv(inf, inf, api.Trv), "000000000000f07f 000000000000f0ff 00"}, {dv(low, high, 256+api.Com), "000000000000f07f 000000000000f0ff 00"}, {api.Deco{}, "000000000000f07f 000000000000f0ff 00"},
	} {
		if b := pack.PutDeco(row.x); !bytes.Equal(b, of(row.want)) {
			t.Errorf("PutDeco(%x) = % x; want %s", row.x, b, row.want)
		}
	}
}

func TestPutBoxes(t *testing.T) {
	d := dice(13004)
	for n := range 34 {
		for range 60 {
			checkPutBox(t, d.box(n))
		}
	}
	eachInterval(0, 0, func(x api.Interval) { checkPutBox(t, []api.Interval{x, iv(1, 2), x}) })
}

// More parts than a box may have, also such numbers of them as end in a byte that it may.
func TestPutBoxesTooLong(t *testing.T) {
	d := dice(13005)
	for _, n := range []int{33, 34, 63, 64, 255, 256, 257, 256 + 32, 512, 65536, 65536 + 1, 1 << 20} {
		checkPutBox(t, make([]api.Interval, n))
		checkPutBox(t, d.box(n))
	}
}
