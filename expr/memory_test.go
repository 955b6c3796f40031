package expr_test

import (
	"bytes"
	"slices"
	"testing"

	"verge/api"
	"verge/expr"
)

// P16.12 and R3

// roomy tells the same list with room behind it that holds others.
func roomy[T any](l []T, others ...T) []T {
	return append(append(make([]T, 0, len(l)+len(others)), l...), others...)[:len(l)]
}

func whole[T any](l []T) []T { return slices.Clone(l[:cap(l)]) }

// spoil writes over a list, and over the room behind it.
func spoil[T any](l []T, x T) {
	l = l[:cap(l)]
	for i := range l {
		l[i] = x
	}
}

func roomyProgram(p api.Program) api.Program {
	return api.Program{Vars: p.Vars, Consts: roomy(p.Consts, iv(nan, signed), iv(2, 1), iv(8, 9)), Code: roomy(p.Code, api.Ins{Op: 99, A: -5}, api.Ins{Op: api.OpId})}
}

func wholeProgram(p api.Program) api.Program {
	return api.Program{Vars: p.Vars, Consts: whole(p.Consts), Code: whole(p.Code)}
}

func spoilProgram(p api.Program) {
	spoil(p.Consts, iv(-77, 77))
	spoil(p.Code, api.Ins{Op: api.OpPown, A: 0, N: 7})
}

// A program stays as it was, in whatever call, refused or not.
func TestProgramsHandedIn(t *testing.T) {
	d := dice(16050)
	for range 3000 {
		p := d.any()
		if d.below(2) == 0 {
			d.turn(&p)
		}
		p = roomyProgram(p)
		kept := wholeProgram(p)
		expr.Check(p)
		expr.Encode(p)
		g, e := expr.New(p)
		if e == api.OK {
			b := list(p.Vars, d.part)
			g.Eval(b)
			g.EvalDeco(d.dressed(b))
			g.Trace(b)
		}
		if !sameProgram(wholeProgram(p), kept) {
			t.Errorf("%s became %s", shown(kept), shown(wholeProgram(p)))
		}
	}
}

// An engine keeps a copy: whatever becomes of the program behind New, ahead of the first run or later.
func TestProgramsAreNotKept(t *testing.T) {
	d := dice(16051)
	for run := range 3000 {
		p := d.any()
		handed := roomyProgram(p)
		g := made(t, handed)
		b := list(p.Vars, d.part)
		if run%2 == 0 {
			runByWords(t, g, p, b, d.dressed(b))
		}
		spoilProgram(handed)
		runByWords(t, g, p, b, d.dressed(b))
	}
}

// So with the bytes of Encode.
func TestEncodeIsNewMemory(t *testing.T) {
	d := dice(16052)
	for _, p := range append(samples(), list(500, d.any)...) {
		want := formOf(p)
		handed := roomyProgram(p)
		first, _ := expr.Encode(handed)
		second, _ := expr.Encode(handed)
		spoilProgram(handed)
		if !bytes.Equal(first, want) {
			t.Errorf("Encode(%s) became % x", shown(p), cut(first))
		}
		spoil(first, 0xa5)
		if !bytes.Equal(second, want) {
			t.Errorf("Encode(%s), then % x", shown(p), cut(second))
		}
		encodes(t, p, want)
	}
}

// Bytes stay as they were, spare room too, and the program does not change with them; what is written
// over it, and over the room behind its lists, is seen in no other answer, nor in its other list.
func TestDecodeIsNewMemory(t *testing.T) {
	d := dice(16053)
	for _, p := range append(samples(), list(500, d.any)...) {
		b := roomy(formOf(p), 1, 2, 3, 4, 5, 6, 7, 8)
		kept := whole(b)
		first, _, e := expr.Decode(b)
		second, _, err := expr.Decode(b)
		if e != api.OK || err != api.OK || !bytes.Equal(whole(b), kept) {
			t.Fatalf("Decode(% x): %d, %d, % x", cut(kept), e, err, cut(b))
		}
		spoil(b, 0x5a)
		if !sameProgram(first, p) {
			t.Errorf("%s became %s with the bytes", shown(p), shown(first))
		}
		spoil(first.Consts, iv(7, 8))
		if !slices.Equal(first.Code, p.Code) {
			t.Errorf("the lines %v changed with the constants", first.Code)
		}
		spoil(first.Code, api.Ins{Op: 5})
		if !sameProgram(second, p) {
			t.Errorf("%s became %s with another answer", shown(p), shown(second))
		}
		decodes(t, formOf(p), p)
	}
	for range 2000 {
		b := roomy(formOf(d.any()), 9, 9, 9)
		b[d.below(len(b))] ^= 1 << d.below(8)
		kept := whole(b)
		expr.Decode(b[:d.below(len(b)+1)])
		expr.Decode(b)
		if !bytes.Equal(whole(b), kept) {
			t.Errorf("% x became % x", kept, b)
		}
	}
}

// A box stays as it was, its parts not as they are read but as they are; it is not kept.
func TestBoxesHandedIn(t *testing.T) {
	d := dice(16054)
	for range 3000 {
		p := d.any()
		g := made(t, p)
		b := roomy(list(p.Vars, d.wild), iv(3, signed), iv(nan, 4), empty)
		dressed := roomy(list(p.Vars, d.strange), nai, dv(signed, nan, 3), dv(1, 2, 16))
		kept, keptDressed := whole(b), whole(dressed)
		x, _ := g.Eval(b)
		y, _ := g.EvalDeco(dressed)
		l, _ := g.Trace(b)
		g.Eval(b[:cap(b)])
		g.Trace(b[:cap(b)])
		g.EvalDeco(dressed[:cap(dressed)])
		if !sameBox(whole(b), kept) || !slices.EqualFunc(whole(dressed), keptDressed, sameDeco) {
			t.Errorf("%x and %x became %x and %x", kept, keptDressed, whole(b), whole(dressed))
		}
		lines := slices.Clone(l)
		spoil(b, iv(5, 6))
		spoil(dressed, dv(5, 6, api.Def))
		if !sameBox(l, lines) {
			t.Errorf("%x became %x with the box", lines, l)
		}
		evals(t, g, x, kept[:p.Vars]...)
		evalsDeco(t, g, y, keptDressed[:p.Vars]...)
		traces(t, g, kept[:p.Vars], lines...)
	}
}

// What Trace answers is new memory, spare room too: written over, it is seen in no other answer.
func TestTraceIsNewMemory(t *testing.T) {
	d := dice(16055)
	for range 3000 {
		p := d.any()
		g := made(t, p)
		b := list(p.Vars, d.part)
		want, y, _ := goneThrough(p, b)
		first, _ := g.Trace(b)
		second, _ := g.Trace(b)
		spoil(first, iv(-7, 8))
		if !sameBox(second, want) {
			t.Errorf("Trace = %x, then %x", want, second)
		}
		traces(t, g, b, want...)
		evals(t, g, y, b...)
		if len(second) > 0 {
			grown := append(second, iv(1, 2))
			grown[0] = iv(3, 4)
			traces(t, g, b, want...)
		}
	}
	void := made(t, root())
	first, _ := void.Trace(box{empty, empty})
	spoil(first, iv(1, 2))
	traces(t, void, box{empty, iv(1, 2)}, empty, empty, empty)
	evals(t, void, empty, empty, empty)
}

// nil and an empty list are one.
func TestNothing(t *testing.T) {
	for _, p := range []api.Program{{Vars: 1, Code: []api.Ins{{Op: api.OpId}}}, {Vars: 1, Consts: box{}, Code: []api.Ins{{Op: api.OpId}}}} {
		encodes(t, p, []byte{86, 71, 1, 1, 0, 0, 1, 0, 2, 0, 0})
		runByWords(t, made(t, p), p, box{iv(1, 2)}, []api.Deco{dv(1, 2, api.Com)})
	}
}
