package pack_test

import (
	"bytes"
	"sync"
	"testing"

	"verge/api"
	"verge/pack"
)

// P13.5, R3 and R4

// spoil writes over bytes, and over the spare room behind them.
func spoil(b []byte) {
	b = b[:cap(b)]
	for i := range b {
		b[i] ^= 0xa5
	}
}

func spoilBox(box []api.Interval) {
	box = box[:cap(box)]
	for i := range box {
		box[i] = iv(7, 8)
	}
}

// roomy tells the same bytes with room behind them that holds others.
func roomy(b []byte) []byte {
	return append(joined(b), bytes.Repeat([]byte{0x5a}, 40)...)[:len(b)]
}

func roomyBox(box []api.Interval) []api.Interval {
	out := append([]api.Interval(nil), box...)
	return append(out, iv(3, signed), iv(nan, 4), iv(5, 6))[:len(box)]
}

func TestPutIsNewMemory(t *testing.T) {
	d := dice(13040)
	for range 300 {
		x, box := d.deco(), d.box(d.below(33))
		first := [][]byte{pack.Put(x.X), pack.PutDeco(x), put(t, box)}
		again := [][]byte{pack.Put(x.X), pack.PutDeco(x), put(t, box)}
		want := [][]byte{joined(first[0]), joined(first[1]), joined(first[2])}
		for _, b := range first {
			spoil(b)
		}
		third := [][]byte{pack.Put(x.X), pack.PutDeco(x), put(t, box)}
		for i := range want {
			if !bytes.Equal(again[i], want[i]) || !bytes.Equal(third[i], want[i]) {
				t.Errorf("%x, %x: % x, then % x and % x", x, box, want[i], again[i], third[i])
			}
		}
	}
}

func TestGetBoxIsNewMemory(t *testing.T) {
	d := dice(13041)
	for range 300 {
		want := d.validBox(d.below(33))
		b := rawBox(want)
		first, e := pack.GetBox(b)
		second, err := pack.GetBox(b)
		if e != api.OK || err != api.OK {
			t.Fatalf("GetBox(% x): %d, %d", b, e, err)
		}
		spoilBox(first)
		if !sameBox(second, want) {
			t.Errorf("%x, then %x", want, second)
		}
		getsBox(t, b, want...)
	}
}

// What is handed in stays as it was, spare room too, and an answer does not change with it.
func TestBytesHandedIn(t *testing.T) {
	d := dice(13042)
	for range 3000 {
		bare, deco, box := d.likely()
		for _, handed := range [][]byte{bare, deco, box, box[:d.below(len(box)+1)]} {
			b := roomy(handed)
			whole := joined(b[:cap(b)])
			x, _ := pack.Get(b)
			y, _ := pack.GetDeco(b)
			z, _ := pack.GetBox(b)
			if !bytes.Equal(b[:cap(b)], whole) {
				t.Errorf("% x became % x", whole, b[:cap(b)])
			}
			kept := append([]api.Interval(nil), z...)
			spoil(b)
			if !sameBox(z, kept) {
				t.Errorf("%x became %x with the bytes", kept, z)
			}
			if x2, _ := pack.Get(handed); !same(x2, x) {
				t.Errorf("Get(% x) = %x, then %x", handed, x, x2)
			}
			if y2, _ := pack.GetDeco(handed); !sameDeco(y2, y) {
				t.Errorf("GetDeco(% x) = %x, then %x", handed, y, y2)
			}
			if z2, _ := pack.GetBox(handed); !sameBox(z2, kept) {
				t.Errorf("GetBox(% x) = %x, then %x", handed, kept, z2)
			}
		}
	}
}

// So with a box: its parts are laid down as they are read, but stay as they were.
func TestBoxHandedIn(t *testing.T) {
	d := dice(13043)
	for range 3000 {
		box := roomyBox(d.box(d.below(35)))
		whole := append([]api.Interval(nil), box[:cap(box)]...)
		b, e := pack.PutBox(box)
		if !sameBox(box[:cap(box)], whole) {
			t.Errorf("%x became %x", whole, box[:cap(box)])
		}
		kept := joined(b)
		spoilBox(box)
		if !bytes.Equal(b, kept) {
			t.Errorf("% x became % x with the box", kept, b)
		}
		if again, err := pack.PutBox(whole[:len(box)]); !bytes.Equal(again, kept) || err != e {
			t.Errorf("PutBox(%x) = % x, %d, then % x, %d", whole, kept, e, again, err)
		}
	}
}

// nil and no bytes are one, no parts too, with room behind them or none.
func TestNothing(t *testing.T) {
	for _, b := range [][]byte{nil, {}, oneTwo()[:0], make([]byte, 0, 64)} {
		refused(t, b)
		refusedDeco(t, b)
		refusedBox(t, b)
	}
	for _, box := range [][]api.Interval{nil, {}, make([]api.Interval, 5)[:0]} {
		if b := put(t, box); !bytes.Equal(b, []byte{0}) {
			t.Errorf("PutBox of no parts = % x", b)
		}
	}
}

// chance asks all calls of what a number stands for, and tells their answers as one text.
func chance(seed int) string {
	d := dice(seed)
	bare, deco, box := d.likely()
	out := joined(pack.Put(d.interval()), pack.PutDeco(d.deco()))
	b, e := pack.PutBox(d.box(d.below(36)))
	out = append(append(out, b...), byte(e))
	x, e := pack.Get(bare)
	out = append(append(out, raw(x)...), byte(e))
	y, e := pack.GetDeco(deco)
	out = append(append(out, rawDeco(y)...), byte(e))
	z, e := pack.GetBox(box)
	return string(append(append(out, rawBox(z)...), byte(e)))
}

// Answers hang on the arguments alone: asked again, in another order, by several at a time.
func TestSameAgain(t *testing.T) {
	first := make([]string, 2000)
	for i := range first {
		first[i] = chance(i)
	}
	var all sync.WaitGroup
	for k := range 8 {
		all.Go(func() {
			for i := range first {
				at := (i*(2*k+1) + 97*k) % len(first)
				if again := chance(at); again != first[at] {
					t.Errorf("number %d: %x, then %x", at, first[at], again)
				}
			}
		})
	}
	all.Wait()
}

// One list of bytes, asked by several at a time: nobody writes on it.
func TestAskedAtOneTime(t *testing.T) {
	d := dice(13044)
	want := d.validBox(32)
	b := roomy(rawBox(want))
	var all sync.WaitGroup
	for range 8 {
		all.Go(func() {
			for range 200 {
				getsBox(t, b, want...)
				gets(t, b[1:17], want[0])
				put(t, want)
			}
		})
	}
	all.Wait()
}
