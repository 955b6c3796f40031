package pack_test

import (
	"bytes"
	"encoding/binary"
	"math"
	"testing"

	"verge/api"
	"verge/pack"
)

// What the tests measure by: DOC.md's words for valid and for 'as it is read', and the library's bytes of a number.

const (
	greatest = math.MaxFloat64
	least    = math.SmallestNonzeroFloat64
)

var (
	inf    = math.Inf(1)
	nan    = math.NaN()
	signed = math.Copysign(0, -1)
	empty  = api.Interval{Lo: inf, Hi: -inf}
	entire = api.Interval{Lo: -inf, Hi: inf}
	nai    = api.Deco{X: empty, D: api.Ill}
)

func iv(lo, hi float64) api.Interval { return api.Interval{Lo: lo, Hi: hi} }

func dv(lo, hi float64, d int) api.Deco { return api.Deco{X: iv(lo, hi), D: d} }

// same: bit for bit.
func same(x, y api.Interval) bool {
	return math.Float64bits(x.Lo) == math.Float64bits(y.Lo) && math.Float64bits(x.Hi) == math.Float64bits(y.Hi)
}

func sameDeco(x, y api.Deco) bool { return same(x.X, y.X) && x.D == y.D }

func sameBox(x, y []api.Interval) bool {
	if len(x) != len(y) {
		return false
	}
	for i := range x {
		if !same(x[i], y[i]) {
			return false
		}
	}
	return true
}

func minusNought(x float64) bool { return math.Float64bits(x) == 1<<63 }

// right: DOC.md, 'What is handed in', 1.
func right(x api.Interval) bool {
	if math.IsNaN(x.Lo) || math.IsNaN(x.Hi) || minusNought(x.Lo) || minusNought(x.Hi) {
		return false
	}
	return x == empty || x.Lo <= x.Hi && x.Lo != inf && x.Hi != -inf
}

// rightDeco: its 3.
func rightDeco(x api.Deco) bool {
	switch {
	case x == nai:
		return true
	case !right(x.X):
		return false
	case x.D == api.Trv:
		return true
	case x.X == empty:
		return false
	case x.D == api.Def, x.D == api.Dac:
		return true
	}
	return x.D == api.Com && x.X.Lo != -inf && x.X.Hi != inf
}

// asRead: its 2.
func asRead(x api.Interval) api.Interval {
	if math.IsNaN(x.Lo) || math.IsNaN(x.Hi) || x.Lo > x.Hi || x.Lo == inf || x.Hi == -inf {
		return empty
	}
	return iv(x.Lo+0, x.Hi+0)
}

// asReadDeco: its 3.
func asReadDeco(x api.Deco) api.Deco {
	y := iv(x.X.Lo+0, x.X.Hi+0)
	switch {
	case x.D != api.Trv && x.D != api.Def && x.D != api.Dac && x.D != api.Com, !right(y):
		return nai
	case y == empty:
		return api.Deco{X: empty, D: api.Trv}
	case x.D == api.Com && (y.Lo == -inf || y.Hi == inf):
		return api.Deco{X: y, D: api.Dac}
	}
	return api.Deco{X: y, D: x.D}
}

func asReadBox(box []api.Interval) []api.Interval {
	out := make([]api.Interval, len(box))
	for i, x := range box {
		out[i] = asRead(x)
	}
	return out
}

// raw lays two ends down as they stand, valid or not.
func raw(x api.Interval) []byte {
	b := binary.LittleEndian.AppendUint64(nil, math.Float64bits(x.Lo))
	return binary.LittleEndian.AppendUint64(b, math.Float64bits(x.Hi))
}

func rawDeco(x api.Deco) []byte { return append(raw(x.X), byte(x.D)) }

func rawBox(box []api.Interval) []byte {
	b := []byte{byte(len(box))}
	for _, x := range box {
		b = append(b, raw(x)...)
	}
	return b
}

// ends takes up what raw lays down.
func ends(b []byte) api.Interval {
	return iv(math.Float64frombits(binary.LittleEndian.Uint64(b)), math.Float64frombits(binary.LittleEndian.Uint64(b[8:])))
}

// The calls, held against the chapter.

func checkPut(t *testing.T, x api.Interval) {
	t.Helper()
	if b, want := pack.Put(x), raw(asRead(x)); !bytes.Equal(b, want) {
		t.Errorf("Put(%x) = % x; want % x", x, b, want)
	}
}

func checkPutDeco(t *testing.T, x api.Deco) {
	t.Helper()
	if b, want := pack.PutDeco(x), rawDeco(asReadDeco(x)); !bytes.Equal(b, want) {
		t.Errorf("PutDeco(%x) = % x; want % x", x, b, want)
	}
}

func checkPutBox(t *testing.T, box []api.Interval) {
	t.Helper()
	var want []byte
	e := api.ErrLong
	if len(box) <= 32 {
		want, e = rawBox(asReadBox(box)), api.OK
	}
	if b, err := pack.PutBox(box); !bytes.Equal(b, want) || err != e {
		t.Errorf("PutBox(%d parts, %x) = % x, %d; want % x, %d", len(box), box[:min(len(box), 33)], b, err, want, e)
	}
}

func checkGet(t *testing.T, b []byte) {
	t.Helper()
	want, e := api.Interval{}, api.ErrBytes
	if len(b) == 16 && right(ends(b)) {
		want, e = ends(b), api.OK
	}
	if x, err := pack.Get(b); !same(x, want) || err != e {
		t.Errorf("Get(%d bytes, % x) = %x, %d; want %x, %d", len(b), b, x, err, want, e)
	}
}

func checkGetDeco(t *testing.T, b []byte) {
	t.Helper()
	want, e := api.Deco{}, api.ErrBytes
	if len(b) == 17 {
		if x := (api.Deco{X: ends(b), D: int(b[16])}); rightDeco(x) {
			want, e = x, api.OK
		}
	}
	if x, err := pack.GetDeco(b); !sameDeco(x, want) || err != e {
		t.Errorf("GetDeco(%d bytes, % x) = %x, %d; want %x, %d", len(b), b, x, err, want, e)
	}
}

// boxOf: the box whose form the bytes are, if they are one.
func boxOf(b []byte) ([]api.Interval, bool) {
	if len(b) == 0 || b[0] > 32 || len(b) != 1+16*int(b[0]) {
		return nil, false
	}
	var box []api.Interval
	for rest := b[1:]; len(rest) > 0; rest = rest[16:] {
		if !right(ends(rest)) {
			return nil, false
		}
		box = append(box, ends(rest))
	}
	return box, true
}

func checkGetBox(t *testing.T, b []byte) {
	t.Helper()
	want, ok := boxOf(b)
	e := api.OK
	if !ok {
		e = api.ErrBytes
	}
	if box, err := pack.GetBox(b); !sameBox(box, want) || err != e {
		t.Errorf("GetBox(%d bytes, % x) = %x, %d; want %x, %d", len(b), b[:min(len(b), 40)], box, err, want, e)
	}
}

// The calls by hand.

func gets(t *testing.T, b []byte, want api.Interval) {
	t.Helper()
	if x, e := pack.Get(b); !same(x, want) || e != api.OK {
		t.Errorf("Get(% x) = %x, %d; want %x", b, x, e, want)
	}
}

func getsDeco(t *testing.T, b []byte, want api.Deco) {
	t.Helper()
	if x, e := pack.GetDeco(b); !sameDeco(x, want) || e != api.OK {
		t.Errorf("GetDeco(% x) = %x, %d; want %x", b, x, e, want)
	}
}

func getsBox(t *testing.T, b []byte, want ...api.Interval) {
	t.Helper()
	if box, e := pack.GetBox(b); !sameBox(box, want) || e != api.OK {
		t.Errorf("GetBox(% x) = %x, %d; want %x", b, box, e, want)
	}
}

func refused(t *testing.T, b []byte) {
	t.Helper()
	if x, e := pack.Get(b); !same(x, api.Interval{}) || e != api.ErrBytes {
		t.Errorf("Get(% x) = %x, %d", b, x, e)
	}
}

func refusedDeco(t *testing.T, b []byte) {
	t.Helper()
	if x, e := pack.GetDeco(b); !sameDeco(x, api.Deco{}) || e != api.ErrBytes {
		t.Errorf("GetDeco(% x) = %x, %d", b, x, e)
	}
}

func refusedBox(t *testing.T, b []byte) {
	t.Helper()
	if box, e := pack.GetBox(b); len(box) != 0 || e != api.ErrBytes {
		t.Errorf("GetBox(%d bytes, % x) = %x, %d", len(b), b[:min(len(b), 40)], box, e)
	}
}
