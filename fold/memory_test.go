package fold_test

import (
	"bytes"
	"runtime"
	"slices"
	"sync"
	"testing"
	"time"

	"verge/api"
)

// P15.4, R3 and R4

// roomy tells the same list with room behind it that holds others.
func roomy(l list) list {
	return append(slices.Clone(l), iv(3, signed), iv(nan, 4), iv(5, 6), empty)[:len(l)]
}

func whole(l list) list { return slices.Clone(l[:cap(l)]) }

func sameList(a, b list) bool { return slices.EqualFunc(a, b, same) }

func spoil(l list) {
	l = l[:cap(l)]
	for i := range l {
		l[i] = iv(nan, float64(i))
	}
}

// What is handed in stays as it was, spare room too; and it is not kept: written over behind the
// call, it makes no difference to an answer. (A worker that still read it would be told by the race
// detector.)
func TestListsHandedIn(t *testing.T) {
	d := dice(15040)
	for run := range 400 {
		n := d.below(40)
		if run%20 == 0 {
			n = 1000 + d.below(1000)
		}
		tell := pick(&d, d.interval, d.wild, d.point)
		a, b := roomy(d.list(n, tell)), roomy(d.list(n, tell))
		keptA, keptB := whole(a), whole(b)
		for _, c := range calls() {
			for _, w := range []int{1, 1 + run%16, 16, 0, 17} {
				x, err := c.ask(a, b, w)
				if !sameList(whole(a), keptA) || !sameList(whole(b), keptB) {
					t.Errorf("%s changed %s or %s", c.name, shown(keptA), shown(keptB))
				}
				first, second := slices.Clone(keptA), slices.Clone(keptB)
				y, e := c.ask(first[:n], second[:n], w)
				spoil(first)
				spoil(second)
				if !same(x, y) || e != err {
					t.Errorf("%s(%s, %s, %d) = %x, %d, then %x, %d", c.name, shown(a), shown(b), w, x, err, y, e)
				}
			}
		}
	}
}

// One list as both of Dot's, and two that share memory.
func TestListsThatShareMemory(t *testing.T) {
	d := dice(15041)
	l := roomy(d.list(900, d.interval))
	kept := whole(l)
	for _, c := range calls() {
		c.check(t, l, l, everyCrew()...)
		c.check(t, l[:600], l[300:], someCrews()...)
		c.check(t, l[1:], l[:899], someCrews()...)
		c.check(t, l[:0], l[5:5], someCrews()...)
	}
	if !sameList(whole(l), kept) {
		t.Error("the list was changed")
	}
}

// running counts the goroutines while all of them stand still: runtime.NumGoroutine may be far off
// while some begin or end.
func running() int {
	stacks := make([]byte, 1<<20)
	return 1 + bytes.Count(stacks[:runtime.Stack(stacks, true)], []byte("\n\ngoroutine "))
}

// settled waits until no more goroutines than so many are left: one that has said that it ends may
// need a moment until it is gone.
func settled(count int) bool {
	for range 5000 {
		if running() <= count {
			return true
		}
		time.Sleep(time.Millisecond)
	}
	return false
}

// When a call answers, all that it began has ended: no goroutine is left.
func TestNoneIsLeftRunning(t *testing.T) {
	d := dice(15042)
	l := d.list(3000, d.interval)
	before := running()
	for n := range 60 {
		for _, c := range calls() {
			for _, w := range []int{1, 2, 16, 0, 17} {
				c.ask(l[:n], l[:n], w)
				c.ask(l[:50*n], l[:50*n], w)
				c.ask(l[:n], l, w)
			}
		}
	}
	if !settled(before) {
		t.Errorf("%d goroutines, %d before", running(), before)
	}
}

// No more goroutines work than were asked for, however long the list is.
func TestNoMoreThanAskedFor(t *testing.T) {
	const others = 3 // that the library may have run in between
	d := dice(15044)
	l := slices.Repeat(d.list(1000, d.bounded), 60)
	before := running()
	for _, c := range calls() {
		for _, w := range []int{1, 2, 5, 16} {
			if !settled(before) {
				t.Fatal("goroutines are left running")
			}
			done := make(chan bool)
			go func() {
				c.ask(l, l, w)
				close(done)
			}()
			most := 0
			for asked := true; asked; {
				most = max(most, running())
				select {
				case <-done:
					asked = false
				default:
					runtime.Gosched()
				}
			}
			if most > before+1+w+others {
				t.Errorf("%s with %d workers: %d goroutines, %d before", c.name, w, most, before)
			}
		}
	}
}

type answer struct {
	x api.Interval
	e api.Errno
}

// chance asks a call of what a number stands for.
func chance(seed int) answer {
	d := dice(seed + 1)
	d.next()
	n := d.below(20)
	if seed%40 == 0 {
		n = 257 + d.below(500)
	}
	tell := pick(&d, d.interval, d.wild, d.near)
	x, err := pick(&d, calls()...).ask(d.list(n, tell), d.list(n+d.below(10)/9, tell), d.below(18))
	return answer{x, err}
}

// Answers hang on the arguments alone: asked again, in another order, by several at a time, with one
// list for all of them too.
func TestSameAgain(t *testing.T) {
	first := make([]answer, 1200)
	for i := range first {
		first[i] = chance(i)
	}
	d := dice(15043)
	shared := roomy(d.list(1200, d.bounded))
	var want []api.Interval
	for _, c := range calls() {
		want = append(want, c.lone(t, shared, shared))
	}
	var all sync.WaitGroup
	for k := range 8 {
		all.Go(func() {
			for i := range first {
				at := (i*(2*k+1) + 97*k) % len(first)
				if again := chance(at); !same(again.x, first[at].x) || again.e != first[at].e {
					t.Errorf("number %d: %v, then %v", at, first[at], again)
				}
				if i%50 == 0 {
					for j, c := range calls() {
						x, _ := c.ask(shared, shared, 1+i/50%16)
						is(t, x, want[j], "%s of a list that several ask for", c.name)
					}
				}
			}
		})
	}
	all.Wait()
}
