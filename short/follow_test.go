package short_test

import (
	"math"
	"sync"
	"testing"

	"verge/api"
	"verge/deco"
	"verge/short"
)

// P14.5, R3 and R4

// eachShort hands out all pairs of the patterns, and some by chance, wrong ones among them.
func eachShort(d dice, times int, try func(x api.Short)) {
	for _, x := range shorts(patterns32()) {
		try(x)
	}
	for range times {
		try(d.wild())
		try(d.interval())
	}
}

func TestNarrowOfWide(t *testing.T) {
	eachShort(14050, 100000, func(x api.Short) {
		is(t, short.Narrow(short.Wide(x)), readShort(x), "Narrow(Wide(%x))", x)
	})
}

// holds tells whether an interval holds another one: both as they are read.
func holds(outer, inner api.Interval) bool {
	return inner.Lo == inf || outer.Lo <= inner.Lo && inner.Hi <= outer.Hi
}

func holdsShort(outer, inner api.Short) bool {
	return inner == empty || outer.Lo <= inner.Lo && inner.Hi <= outer.Hi
}

// Wide(Narrow(x)) holds x, and lies in each wide one of a short that holds it.
func TestWideOfNarrow(t *testing.T) {
	d := dice(14051)
	var others []api.Interval
	for _, y := range proper(patterns32()...) {
		others = append(others, short.Wide(y))
	}
	try := func(x api.Interval) {
		a, wide := readWide(x), short.Wide(short.Narrow(x))
		if !holds(wide, a) {
			t.Errorf("Wide(Narrow(%x)) = %x", x, wide)
		}
		for range 20 {
			if y := pick(&d, others...); holds(y, a) && !holds(y, wide) {
				t.Errorf("Wide(Narrow(%x)) = %x, but %x holds it", x, wide, y)
			}
		}
		near := []float32{float32(a.Lo), above(float32(a.Lo)), below(float32(a.Lo)), float32(a.Hi), above(float32(a.Hi)), below(float32(a.Hi))}
		for _, y := range shorts(near) {
			if y := short.Wide(y); holds(y, a) && !holds(y, wide) {
				t.Errorf("Wide(Narrow(%x)) = %x, but %x holds it", x, wide, y)
			}
		}
	}
	for _, x := range crossed(patterns64()) {
		try(api.Interval(x))
	}
	for range 20000 {
		x, y := d.bitsWide(), d.wide()
		try(iv(x, y))
		try(iv(min(x, y), max(x, y)))
	}
}

// Rounded twice in one direction is rounded once.
func TestApplyIsNarrowOfLocal(t *testing.T) {
	d := dice(14052)
	for _, f := range append(operations(), power(7), power(-1024), power(1024), power(1025), power(math.MinInt)) {
		for range 1000 {
			for _, tell := range []func() api.Short{d.interval, d.point, d.wild} {
				args := list(f.operands, tell)
				wide := make([]api.Interval, len(args))
				for i, x := range args {
					wide[i] = short.Wide(x)
				}
				y, _ := deco.Local(f.op, f.n, wide...)
				is(t, short.Apply(f.op, f.n, args...), short.Narrow(y), "%s %d of %x", f.name, f.n, args)
			}
		}
	}
}

// grown tells an interval that holds x.
func (d *dice) grown(x api.Short) api.Short {
	if x = readShort(x); x == empty {
		return d.interval()
	}
	switch d.below(5) {
	case 0:
		return api.Short{Lo: below(x.Lo), Hi: x.Hi}
	case 1:
		return api.Short{Lo: x.Lo, Hi: above(x.Hi)}
	case 2:
		return x
	}
	y := d.interval()
	return api.Short{Lo: min(x.Lo, y.Lo), Hi: max(x.Hi, y.Hi)}
}

func TestApplyGrows(t *testing.T) {
	d := dice(14053)
	for _, f := range append(operations(), power(7), power(-7), power(1024), power(1025)) {
		for range 2000 {
			args := list(f.operands, pick(&d, d.interval, d.point, d.wild))
			more := make([]api.Short, len(args))
			for i, x := range args {
				more[i] = d.grown(x)
			}
			inner, outer := short.Apply(f.op, f.n, args...), short.Apply(f.op, f.n, more...)
			if !holdsShort(outer, inner) {
				t.Errorf("%s %d of %x = %x, of %x = %x", f.name, f.n, args, inner, more, outer)
			}
		}
	}
}

func TestOrderOfPairs(t *testing.T) {
	d := dice(14054)
	for range 50000 {
		x, y := pair(d.bits(), d.bits()), pair(d.bits(), d.bits())
		isPair(t, short.Meet(x, y), short.Meet(y, x), "Meet(%x, %x)", x, y)
		isPair(t, short.Join(x, y), short.Join(y, x), "Join(%x, %x)", x, y)
		u, v := pair(mine64(d.bitsWide()), mine64(d.bitsWide())), pair(mine64(d.bitsWide()), mine64(d.bitsWide()))
		isPair(t, short.Meet(u, v), short.Meet(v, u), "Meet(%x, %x)", u, v)
		isPair(t, short.Join(u, v), short.Join(v, u), "Join(%x, %x)", u, v)
	}
}

// Every answer is valid, whatever is handed in.
func TestAnswersAreValid(t *testing.T) {
	d := dice(14055)
	fs := append(operations(), power(1024), power(-1024), power(1025), power(-1025))
	eachShort(14056, 20000, func(x api.Short) {
		f, y := pick(&d, fs...), d.wild()
		args := list(d.below(4), d.wild)
		for _, z := range []api.Short{short.Read(x), short.Narrow(iv(d.bitsWide(), d.bitsWide())), short.Apply(f.op, f.n, args...), short.Apply(f.op, f.n, x), short.Apply(f.op, f.n, x, y),
			api.Short(short.Meet(short.Pair[float32](x), short.Pair[float32](y))), api.Short(short.Join(short.Pair[float32](x), short.Pair[float32](y)))} {
			if !rightShort(z) || !short.Valid(z) {
				t.Errorf("of %x, %x, %x: %x", x, y, args, z)
			}
			is(t, short.Read(z), z, "Read(%x)", z)
		}
		if z := short.Wide(x); readWide(z) != z || math.Signbit(z.Lo) && z.Lo == 0 || math.Signbit(z.Hi) && z.Hi == 0 {
			t.Errorf("Wide(%x) = %x", x, z)
		}
	})
}

// R3: what is handed in stays as it was, spare room too.
func TestArgumentsStay(t *testing.T) {
	d := dice(14057)
	bitsOf := func(x api.Short) [2]uint32 { return [2]uint32{math.Float32bits(x.Lo), math.Float32bits(x.Hi)} }
	for _, f := range operations() {
		for range 50 {
			room := list(8, d.wild)
			kept := append([]api.Short{}, room...)
			for count := range 6 {
				short.Apply(f.op, f.n, room[:count]...)
			}
			for i := range room {
				if bitsOf(room[i]) != bitsOf(kept[i]) {
					t.Errorf("%s: %x became %x", f.name, kept[i], room[i])
				}
			}
		}
	}
}

// R4: the answers hang on nothing but the arguments: asked again, in another order, by several at a time.
func TestSameAgain(t *testing.T) {
	fs := operations()
	asked := func(i int) api.Short {
		d := dice(i)
		f := fs[i%len(fs)]
		y := short.Apply(f.op, f.n, list(f.operands, d.interval)...)
		z := short.Meet(short.Pair[float32](y), short.Pair[float32](d.grown(y)))
		return short.Narrow(short.Wide(api.Short(z)))
	}
	first := make([]api.Short, 3000)
	for i := range first {
		first[i] = asked(i)
	}
	shared := []api.Short{sv(1, 2), sv(3, 4), sv(5, 6)}
	var all sync.WaitGroup
	for k := range 8 {
		all.Go(func() {
			for i := range first {
				at := (i*(2*k+1) + 97*k) % len(first)
				is(t, asked(at), first[at], "number %d", at)
				is(t, short.Apply(api.OpFMA, 0, shared...), sv(8, 14), "FMA of %v", shared)
			}
		})
	}
	all.Wait()
}
