package slope_test

import (
	"slices"
	"sync"
	"testing"

	"verge/api"
	"verge/slope"
)

// P18.5, R3 and R4

// roomy tells the same list with room behind it that holds others.
func roomy[T any](l []T, others ...T) []T {
	return append(append(make([]T, 0, len(l)+len(others)), l...), others...)[:len(l)]
}

func all[T any](l []T) []T { return slices.Clone(l[:cap(l)]) }

// spoil writes over a list, and over the room behind it.
func spoil[T any](l []T, x T) {
	l = l[:cap(l)]
	for i := range l {
		l[i] = x
	}
}

func roomyProgram(p api.Program) api.Program {
	return api.Program{Vars: p.Vars, Consts: roomy(p.Consts, iv(nan, signed), iv(2, 1), iv(8, 9)), Code: roomy(p.Code, api.Ins{Op: 99, A: -5}, api.Ins{Op: api.OpId})}
}

func allProgram(p api.Program) api.Program {
	return api.Program{Vars: p.Vars, Consts: all(p.Consts), Code: all(p.Code)}
}

// What is handed in stays as it was, its parts not as they are read but as they are, spare room too.
func TestHandedIn(t *testing.T) {
	d := dice(18050)
	for run := range 4000 {
		p := d.any()
		switch {
		case run%10 == 0:
			p.Code[len(p.Code)-1].Op = 22
		case run%10 == 1:
			p.Vars++ // the box is too short then, or an operand none
		}
		p = roomyProgram(p)
		b := roomy(list(d.below(2)+max(0, p.Vars-d.below(2)), d.wild), iv(3, signed), iv(nan, 4), empty)
		if run%10 > 1 {
			b = roomy(list(p.Vars, d.wild), iv(3, signed), iv(nan, 4), empty)
		}
		kept, keptBox := allProgram(p), all(b)
		slope.Slopes(p, b)
		slope.MeanValue(p, b)
		for part := -1; part <= p.Vars; part++ {
			slope.Newton(p, b, part)
		}
		if !sameProgram(allProgram(p), kept) {
			t.Errorf("%s became %s", shown(kept), shown(allProgram(p)))
		}
		if !sameBox(all(b), keptBox) {
			t.Errorf("%x became %x", keptBox, all(b))
		}
	}
}

// Slopes are new memory, spare room too: nothing that is handed in, and no other answer, is seen in them.
func TestSlopesAreNewMemory(t *testing.T) {
	d := dice(18051)
	for range 4000 {
		p := d.any()
		b := list(p.Vars, d.part)
		w := want(t, p, b)
		handed, handedBox := roomyProgram(p), roomy(b, iv(1, 2), iv(3, 4))
		_, first, _ := slope.Slopes(handed, handedBox)
		_, second, _ := slope.Slopes(handed, handedBox)
		spoil(handed.Consts, iv(-77, 77))
		spoil(handed.Code, api.Ins{Op: api.OpPown, N: 7})
		spoil(handedBox, iv(-7, 7))
		if !sameBox(first, w.slopes) {
			t.Errorf("%s; %v: the slopes became %v", shown(p), b, first)
		}
		spoil(first, iv(-5, 5))
		if !sameBox(second, w.slopes) {
			t.Errorf("%s; %v: the slopes became %v with another answer", shown(p), b, second)
		}
		slopesAre(t, p, b, w.value, w.slopes...)
	}
}

// The slopes written over leave the box as it was: a program whose slopes are as long as the box.
func TestSlopesAreNotTheBox(t *testing.T) {
	b := box{iv(1, 2), empty, iv(3, 4)}
	kept := slices.Clone(b)
	_, s, _ := slope.Slopes(api.Program{Vars: 3, Code: []api.Ins{{Op: api.OpId, A: 2}}}, b)
	spoil(s, iv(9, 9))
	if !sameBox(b, kept) {
		t.Errorf("the box became %v", b)
	}
}

// nil and an empty list are one.
func TestNothing(t *testing.T) {
	for _, p := range []api.Program{alone(api.OpSqr, 0), {Vars: 1, Consts: box{}, Code: []api.Ins{{Op: api.OpSqr}}}} {
		slopesAre(t, p, box{iv(1, 2)}, iv(1, 4), iv(2, 4))
	}
	fixed := api.Program{Consts: box{one(3)}, Code: []api.Ins{{Op: api.OpConst}}}
	for _, b := range []box{nil, {}} {
		slopesAre(t, fixed, b, one(3))
		meanIs(t, fixed, b, one(3))
	}
}

// Calls disturb one another in nothing: one behind the other, in any order, or at one time.
func TestCallsAtOneTime(t *testing.T) {
	d := dice(18052)
	type call struct {
		p api.Program
		b box
		w wanted
	}
	calls := list(24, func() call {
		p := d.any()
		b := list(p.Vars, d.part)
		return call{p, b, want(t, p, b)}
	})
	var group sync.WaitGroup
	for worker := range 8 {
		group.Add(1)
		go func() {
			defer group.Done()
			for i := range 3 * len(calls) {
				c := calls[(i*(worker+1)+worker)%len(calls)]
				slopesAre(t, c.p, c.b, c.w.value, c.w.slopes...)
				meanIs(t, c.p, c.b, c.w.mean)
				for part, left := range c.w.newton {
					newtonIs(t, c.p, c.b, part, left)
				}
			}
		}()
	}
	group.Wait()
}
