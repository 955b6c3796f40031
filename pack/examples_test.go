package pack_test

import (
	"bytes"
	"testing"

	"verge/api"
	"verge/pack"
)

// The rows of the chapter's examples.

func oneTwo() []byte { return of("00 00 00 00 00 00 f0 3f 00 00 00 00 00 00 00 40") }

func emptyForm() []byte { return of("00 00 00 00 00 00 f0 7f 00 00 00 00 00 00 f0 ff") }

func oneUp() []byte { return of("00 00 00 00 00 00 f0 3f 00 00 00 00 00 00 f0 7f") }

func TestExamplesOfPut(t *testing.T) {
	for _, row := range []struct {
		x    api.Interval
		want []byte
	}{{iv(1, 2), oneTwo()}, {iv(2, 1), emptyForm()}, {iv(nan, 1), emptyForm()}, {iv(signed, 1), of("00 00 00 00 00 00 00 00 00 00 00 00 00 00 f0 3f")}, {empty, emptyForm()}, {iv(1, inf), oneUp()}} {
		if b := pack.Put(row.x); !bytes.Equal(b, row.want) {
			t.Errorf("Put(%v) = % x; want % x", row.x, b, row.want)
		}
	}
	for _, row := range []struct {
		x    api.Deco
		want []byte
	}{
		{dv(1, 2, api.Com), joined(oneTwo(), of("10"))}, {dv(1, 2, 7), joined(emptyForm(), of("00"))}, {api.Deco{X: empty, D: api.Com}, joined(emptyForm(), of("04"))},
		{dv(1, inf, api.Com), joined(oneUp(), of("0c"))}, {dv(2, 1, api.Com), joined(emptyForm(), of("00"))}, {nai, joined(emptyForm(), of("00"))},
	} {
		if b := pack.PutDeco(row.x); !bytes.Equal(b, row.want) {
			t.Errorf("PutDeco(%v) = % x; want % x", row.x, b, row.want)
		}
	}
}

func TestExamplesOfGet(t *testing.T) {
	one, nought, minus := oneTwo(), of("0000000000000000"), of("0000000000000080")
	infinite, minusInfinite := emptyForm()[:8], emptyForm()[8:]
	gets(t, one, iv(1, 2))
	gets(t, make([]byte, 16), iv(0, 0))
	gets(t, joined(minusInfinite, one[:8]), iv(-inf, 1))
	for _, b := range [][]byte{one[:15], joined(one, of("00")), joined(one[8:], one[:8]), bytes.Repeat([]byte{0xff}, 16), joined(nought, minus), joined(infinite, infinite)} {
		refused(t, b)
	}
	getsDeco(t, joined(one, of("10")), dv(1, 2, api.Com))
	getsDeco(t, joined(emptyForm(), of("00")), nai)
	getsDeco(t, joined(emptyForm(), of("04")), api.Deco{X: empty, D: api.Trv})
	for _, b := range [][]byte{joined(one, of("00")), joined(one, of("05")), joined(one, of("11")), joined(emptyForm(), of("08")), joined(oneUp(), of("10")), one} {
		refusedDeco(t, b)
	}
}

func TestExamplesOfBoxes(t *testing.T) {
	two := joined(of("02"), oneTwo(), emptyForm())
	for _, row := range []struct {
		box  []api.Interval
		want []byte
	}{{nil, of("00")}, {[]api.Interval{}, of("00")}, {[]api.Interval{iv(1, 2), iv(nan, 0)}, two}, {make([]api.Interval, 32), joined(of("20"), make([]byte, 512))}} {
		if b, e := pack.PutBox(row.box); !bytes.Equal(b, row.want) || e != api.OK {
			t.Errorf("PutBox(%v) = % x, %d; want % x", row.box, b, e, row.want)
		}
	}
	if b, e := pack.PutBox(make([]api.Interval, 33)); len(b) != 0 || e != api.ErrLong {
		t.Errorf("PutBox of 33 parts = % x, %d", b, e)
	}
	getsBox(t, of("00"))
	getsBox(t, two, iv(1, 2), empty)
	for _, b := range [][]byte{nil, {}, of("00 00"), of("01"), joined(of("21"), make([]byte, 528))} {
		refusedBox(t, b)
	}
}
