package pack_test

import (
	"bytes"
	"testing"

	"verge/api"
	"verge/pack"
)

// P13.4

// put tells the bytes of a box that is not too long.
func put(t *testing.T, box []api.Interval) []byte {
	t.Helper()
	b, e := pack.PutBox(box)
	if e != api.OK {
		t.Fatalf("PutBox of %d parts: %d", len(box), e)
	}
	return b
}

func TestGetOfPut(t *testing.T) {
	d := dice(13030)
	eachInterval(50000, 13031, func(x api.Interval) {
		gets(t, pack.Put(x), asRead(x))
		y := api.Deco{X: x, D: pick(&d, append(ranks(), int(d.next()))...)}
		getsDeco(t, pack.PutDeco(y), asReadDeco(y))
		y.D = pick(&d, api.Com, api.Dac, api.Def, api.Trv)
		getsDeco(t, pack.PutDeco(y), asReadDeco(y))
	})
	for n := range 33 {
		for range 40 {
			box := d.box(n)
			getsBox(t, put(t, box), asReadBox(box)...)
		}
	}
}

// likely tells bytes that are a form about as often as not.
func (d *dice) likely() (bare, deco, box []byte) {
	x := pick(d, d.valid(), d.interval())
	bare = raw(x)
	deco = append(raw(x), pick(d, byte(api.Com), api.Dac, api.Def, api.Trv, api.Ill, byte(d.next())))
	return bare, deco, rawBox(pick(d, d.validBox(d.below(36)), d.box(d.below(3))))
}

func TestPutOfGet(t *testing.T) {
	d := dice(13032)
	taken := [3]int{}
	for range 20000 {
		bare, deco, box := d.likely()
		if x, e := pack.Get(bare); e == api.OK {
			taken[0]++
			if back := pack.Put(x); !bytes.Equal(back, bare) {
				t.Errorf("% x: %x, then % x", bare, x, back)
			}
		}
		if x, e := pack.GetDeco(deco); e == api.OK {
			taken[1]++
			if back := pack.PutDeco(x); !bytes.Equal(back, deco) {
				t.Errorf("% x: %x, then % x", deco, x, back)
			}
		}
		if x, e := pack.GetBox(box); e == api.OK {
			taken[2]++
			if back := put(t, x); !bytes.Equal(back, box) {
				t.Errorf("% x: %x, then % x", box, x, back)
			}
		}
	}
	for i, n := range taken {
		if n < 5000 {
			t.Errorf("kind %d: only %d forms were tried", i, n)
		}
	}
}

// Two that are valid are == just if their bytes are the same.
func TestSameJustIfBytesAre(t *testing.T) {
	var all []api.Deco
	eachInterval(60, 13033, func(x api.Interval) {
		if right(x) {
			for _, rank := range []int{api.Trv, api.Com} {
				all = append(all, asReadDeco(api.Deco{X: x, D: rank}))
			}
		}
	})
	all = append(all, nai)
	for _, x := range all {
		bare, deco, box := pack.Put(x.X), pack.PutDeco(x), put(t, []api.Interval{x.X, entire})
		for _, y := range all {
			if bytes.Equal(bare, pack.Put(y.X)) != (x.X == y.X) || bytes.Equal(deco, pack.PutDeco(y)) != (x == y) || bytes.Equal(box, put(t, []api.Interval{y.X, entire})) != (x.X == y.X) {
				t.Fatalf("%x and %x: %t, but bytes tell otherwise", x, y, x == y)
			}
		}
	}
}

// Of the forms' bytes less one at the end, or with one more, each is refused, whatever that one is.
func TestOneLessOneMore(t *testing.T) {
	d := dice(13034)
	for range 300 {
		x := d.deco()
		bare, deco, box := pack.Put(x.X), pack.PutDeco(x), put(t, d.box(d.below(33)))
		refused(t, bare[:15])
		refusedDeco(t, deco[:16])
		refusedBox(t, box[:len(box)-1])
		for c := range 256 {
			refused(t, joined(bare, []byte{byte(c)}))
			refusedDeco(t, joined(deco, []byte{byte(c)}))
			refusedBox(t, joined(box, []byte{byte(c)}))
		}
	}
}

// A box's bytes are its parts' own, one behind the other.
func TestBoxOfParts(t *testing.T) {
	d := dice(13035)
	for n := range 33 {
		box := d.box(n)
		want := []byte{byte(n)}
		for _, x := range box {
			want = append(want, pack.Put(x)...)
		}
		if b := put(t, box); !bytes.Equal(b, want) {
			t.Errorf("PutBox(%x) = % x; want % x", box, b, want)
		}
		if deco := pack.PutDeco(api.Deco{X: d.valid(), D: api.Trv}); !bytes.Equal(deco[:16], pack.Put(ends(deco))) {
			t.Errorf("PutDeco = % x, its interval alone % x", deco, pack.Put(ends(deco)))
		}
	}
}
