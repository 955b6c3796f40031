package sieve_test

import (
	"iter"
	"runtime"
	"slices"
	"testing"

	"verge/api"
	"verge/sieve"
)

// P20.5: ranges over what Walk answers.

// walks asks for a function to range over.
func walks(t *testing.T, goals []api.Goal, b box, l api.Limits) iter.Seq2[int, []api.Interval] {
	t.Helper()
	walk, e := sieve.Walk(goals, b, l)
	if e != api.OK {
		t.Fatalf("Walk(%s; %v, %v): %d", shown(goals), b, l, e)
	}
	return walk
}

// round tells all that one range gives.
func round(walk iter.Seq2[int, []api.Interval]) []given {
	var out []given
	for kind, b := range walk {
		out = append(out, given{kind, b})
	}
	return out
}

// some tells what a range gives that is left at the box of that number, from 1 on.
func some(walk iter.Seq2[int, []api.Interval], count int) []given {
	var out []given
	for kind, b := range walk {
		out = append(out, given{kind, b})
		if len(out) == count {
			break
		}
	}
	return out
}

func alike(t *testing.T, got, want []given, how string) {
	t.Helper()
	if !slices.EqualFunc(got, want, sameGiven) {
		t.Errorf("%s: %d boxes, %v ..; want %d, %v ..", how, len(got), got[:min(4, len(got))], len(want), want[:min(4, len(want))])
	}
}

// search is a case for ranges.
type search struct {
	goals []api.Goal
	b     box
	l     api.Limits
}

// searches find boxes of all kinds, in several rounds, one without any, and one of a single box.
func searches() []search {
	plane := box{iv(-3, 3.5), iv(-2.75, 3)}
	return []search{
		{[]api.Goal{disc(1, 2)}, plane, api.Limits{Width: 0.25, Boxes: 500, Rounds: 40, Workers: 4}},
		{[]api.Goal{disc(0, 2), two(api.OpMul, iv(-1, 1))}, plane, api.Limits{Width: 0, Boxes: 300, Rounds: 40, Workers: 16}},
		{[]api.Goal{disc(1.5, 1.5)}, plane, api.Limits{Width: 0.125, Boxes: 3000, Rounds: 40, Workers: 2}},
		{[]api.Goal{unsure(2)}, grid(0)[0], api.Limits{Width: 2, Boxes: 15, Rounds: 4, Workers: 3}},
		{[]api.Goal{unsure(2)}, grid(0)[0], api.Limits{Width: 2, Boxes: 14, Rounds: 4, Workers: 1}},
		{[]api.Goal{unsure(3)}, box{iv(0, 1), entire, iv(signed, inf)}, api.Limits{Boxes: 200, Rounds: 9, Workers: 5}},
		{[]api.Goal{alone(api.OpRecip, 0, entire)}, box{iv(-1, 1)}, api.Limits{Width: 0x1p-8, Boxes: 99, Rounds: 99, Workers: 2}},
		{[]api.Goal{sure(1)}, box{iv(0, 1)}, api.Limits{Boxes: 9, Rounds: 9, Workers: 16}},
		{[]api.Goal{unsure(1)}, box{iv(0, 1)}, api.Limits{Workers: 2}},
		{[]api.Goal{never(1)}, box{iv(0, 1)}, api.Limits{Boxes: 9, Rounds: 9, Workers: 2}},
		{[]api.Goal{sure(1)}, box{empty}, api.Limits{Boxes: 9, Rounds: 9, Workers: 2}},
		{[]api.Goal{sure(0)}, nil, api.Limits{Boxes: 9, Rounds: 9, Workers: 2}},
	}
}

func (s search) wanted() []given {
	found, _, _ := wanted(s.goals, s.b, s.l)
	return found
}

// Each range begins anew.
func TestRangesAgain(t *testing.T) {
	kinds := map[int]int{}
	for _, s := range searches() {
		want := s.wanted()
		walk := walks(t, s.goals, s.b, s.l)
		for range 3 {
			alike(t, round(walk), want, "again")
		}
		for _, g := range want {
			kinds[g.kind]++
		}
	}
	if kinds[sieve.Inner] < 100 || kinds[sieve.Edge] < 100 || kinds[sieve.Left] < 100 || len(kinds) != 3 {
		t.Error(kinds)
	}
}

// Ranges that are left: at the first box, at each of the next ones, in the midst, at the last one.
func TestRangesLeft(t *testing.T) {
	for _, s := range searches() {
		want := s.wanted()
		walk := walks(t, s.goals, s.b, s.l)
		step := 1 + len(want)/60
		for n := 1; n <= len(want); n += step {
			alike(t, some(walk, n), want[:n], "left")
		}
		for _, n := range []int{2, len(want) / 2, len(want) - 1, len(want)} {
			if n >= 1 && n <= len(want) {
				alike(t, some(walk, n), want[:n], "left")
			}
		}
		alike(t, round(walk), want, "behind ranges that were left")
	}
}

// made tells how much memory was asked for, while something is done: so much work it was, about.
func made(work func()) uint64 {
	var before, after runtime.MemStats
	runtime.ReadMemStats(&before)
	work()
	runtime.ReadMemStats(&after)
	return after.Mallocs - before.Mallocs
}

// A range that is left at the first box of a long round does not look at all the others. (Once it may, if
// the worker who looks at that box is held up for as long as the other ones need for the rest.)
func TestRangesLeftEndSoon(t *testing.T) {
	for _, workers := range []int{1, 16} {
		// Of 8191 boxes 4096 are looked at in the last round.
		walk := walks(t, []api.Goal{unsure(1)}, box{iv(0, 4096)}, api.Limits{Width: 1, Boxes: 8191, Rounds: 13, Workers: workers})
		whole := made(func() { round(walk) })
		short := whole
		for range 20 {
			short = min(short, made(func() { some(walk, 1) }))
		}
		if short < whole/4 || short > whole/4*3 {
			t.Errorf("%d workers: %d for all boxes, %d up to the first one", workers, whole, short)
		}
	}
}

// Where a range is left, no further box is given: not by hand either.
func TestNothingBehindTheEnd(t *testing.T) {
	for _, s := range searches() {
		want := s.wanted()
		walk := walks(t, s.goals, s.b, s.l)
		for n := 1; n <= min(len(want), 20); n++ {
			count := 0
			walk(func(int, []api.Interval) bool {
				count++
				return count < n
			})
			if count != n {
				t.Errorf("%d boxes were given, %d were taken", count, n)
			}
		}
	}
}

// Ranges one inside another, over one function, each over all.
func TestRangesInside(t *testing.T) {
	for _, s := range searches()[3:] {
		want := s.wanted()
		walk := walks(t, s.goals, s.b, s.l)
		at := 0
		for kind, b := range walk {
			alike(t, []given{{kind, b}}, want[at:at+1], "outside")
			alike(t, round(walk), want, "inside")
			alike(t, some(walk, at+1), want[:at+1], "inside, and left")
			at++
			if at == 12 {
				break
			}
		}
		if at != min(len(want), 12) {
			t.Errorf("%d boxes", at)
		}
	}
	// Three deep, left from the innermost one.
	walk := walks(t, []api.Goal{unsure(2)}, grid(0)[0], api.Limits{Width: 2, Boxes: 15, Rounds: 4, Workers: 3})
	turns := 0
deep:
	for _, a := range walk {
		for _, b := range walk {
			for _, c := range walk {
				turns++
				if sameBox(a, b) && sameBox(b, c) && sameBox(c, grid(3)[2]) {
					break deep
				}
				if sameBox(c, grid(3)[5]) {
					break
				}
			}
		}
	}
	if turns != 2*8*6+2*6+3 {
		t.Errorf("%d turns", turns)
	}
}

// Two ranges side by side, step by step; and one that is stopped.
func TestRangesByTurns(t *testing.T) {
	for _, s := range searches() {
		want := s.wanted()
		walk := walks(t, s.goals, s.b, s.l)
		first, stopFirst := iter.Pull2(walk)
		second, stopSecond := iter.Pull2(walk)
		for i := range len(want) + 1 {
			kind, b, ok := first()
			if ok != (i < len(want)) || ok && !sameGiven(given{kind, b}, want[i]) {
				t.Errorf("number %d: %d %v, %t", i, kind, b, ok)
			}
			if i%2 == 0 {
				continue
			}
			if kind, b, ok = second(); !ok || !sameGiven(given{kind, b}, want[i/2]) {
				t.Errorf("number %d of the second one: %d %v, %t", i/2, kind, b, ok)
			}
		}
		stopSecond()
		if _, _, ok := second(); ok {
			t.Error("a range that was stopped goes on")
		}
		stopFirst()
	}
}

// What is done to goals, their programs and the box behind the call, ahead of a range, in it, and between
// two, is not seen; nor what is done to the boxes that are given.
func TestWrittenOverBehindTheCall(t *testing.T) {
	for _, s := range searches() {
		want := s.wanted()
		goals, b := roomyGoals(s.goals), roomyBox(s.b)
		walk := walks(t, goals, b, s.l)
		alike(t, round(walk), want, "as it was")
		late, at := goals, 0
		for kind, x := range walk {
			if !sameGiven(given{kind, x}, want[at]) {
				t.Fatalf("number %d: %d %v; want %v", at, kind, x, want[at])
			}
			spoil(x, iv(-99, 99))
			if at == 1 { // in the midst
				spoilGoals(late)
				spoil(b, iv(7, 8))
			}
			at++
		}
		if at != len(want) {
			t.Errorf("%d boxes, want %d", at, len(want))
		}
		alike(t, round(walk), want, "behind that")
		goals, b = roomyGoals(s.goals), roomyBox(s.b)
		walk = walks(t, goals, b, s.l)
		spoilGoals(goals)
		spoil(b, empty)
		alike(t, round(walk), want, "written over at once")
	}
}

// A range that is left by a panic, by a return, by the end of its goroutine: all ends, and the next one is
// well.
func TestRangesThatAreBrokenOff(t *testing.T) {
	before := running()
	for _, s := range searches() {
		want := s.wanted()
		if len(want) == 0 {
			continue
		}
		walk := walks(t, s.goals, s.b, s.l)
		for _, n := range []int{1, (len(want) + 1) / 2, len(want)} {
			if told := panics(walk, n); told != "far enough" {
				t.Errorf("%v", told)
			}
			if got := returns(walk, n); !sameGiven(got, want[n-1]) {
				t.Errorf("%v; want %v", got, want[n-1])
			}
			done := make(chan bool)
			go func() {
				defer close(done)
				returned := 0
				for range walk {
					if returned++; returned == n {
						runtime.Goexit()
					}
				}
			}()
			<-done
			alike(t, round(walk), want, "behind that")
		}
	}
	if !settled(before) {
		t.Errorf("%d goroutines, %d before", running(), before)
	}
}

func panics(walk iter.Seq2[int, []api.Interval], n int) (told any) {
	defer func() { told = recover() }()
	for range walk {
		if n--; n == 0 {
			panic("far enough")
		}
	}
	return nil
}

func returns(walk iter.Seq2[int, []api.Interval], n int) given {
	for kind, b := range walk {
		if n--; n == 0 {
			return given{kind, b}
		}
	}
	return given{}
}
