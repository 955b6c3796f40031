package sieve_test

import (
	"bytes"
	"runtime"
	"slices"
	"sync"
	"testing"
	"time"

	"verge/api"
	"verge/sieve"
)

// P20.6, R4

// running counts the goroutines while all of them stand still: runtime.NumGoroutine may be far off
// while some begin or end.
func running() int {
	stacks := make([]byte, 1<<20)
	return 1 + bytes.Count(stacks[:runtime.Stack(stacks, true)], []byte("\n\ngoroutine "))
}

// settled waits until no more goroutines than so many are left: one that has said that it ends may
// need a moment until it is gone.
func settled(count int) bool {
	for range 5000 {
		if running() <= count {
			return true
		}
		time.Sleep(time.Millisecond)
	}
	return false
}

// How many workers there are is not seen.
func TestEveryNumberOfWorkers(t *testing.T) {
	d := dice(20060)
	all := searches()
	for _, g := range regions() {
		all = append(all, search{[]api.Goal{g}, box{iv(-3, 3.5), iv(-2.75, 3)}, api.Limits{Width: 0.25, Boxes: 200, Rounds: 20}})
	}
	for range 40 {
		vars := 1 + d.below(3)
		b := list(vars, d.open)
		all = append(all, search{list(1+d.below(3), func() api.Goal { return d.aim(d.over(vars), b) }), b, d.limits()})
	}
	for _, s := range all {
		found, boxes, rounds := wanted(s.goals, s.b, s.l)
		for workers := 1; workers <= api.MaxWorkers; workers++ {
			s.l.Workers = workers
			answers(t, s.goals, s.b, s.l, gathered(found, boxes, rounds))
			gives(t, s.goals, s.b, s.l, found)
		}
	}
}

// The same with few and many processors, and by one who takes the boxes slowly.
func TestHowTheyRun(t *testing.T) {
	for _, procs := range []int{1, 2, 5, 16} {
		was := runtime.GOMAXPROCS(procs)
		for _, s := range searches() {
			want := s.wanted()
			for _, workers := range []int{1, 2, 7, 16} {
				s.l.Workers = workers
				alike(t, round(walks(t, s.goals, s.b, s.l)), want, "with other processors")
				at := 0
				for kind, b := range walks(t, s.goals, s.b, s.l) {
					if at%50 == 0 {
						time.Sleep(time.Millisecond)
					} else if at%3 == 0 {
						runtime.Gosched()
					}
					if !sameGiven(given{kind, b}, want[at]) {
						t.Fatalf("number %d: %d %v; want %v", at, kind, b, want[at])
					}
					at++
				}
				if at != len(want) {
					t.Errorf("%d boxes, want %d", at, len(want))
				}
			}
		}
		runtime.GOMAXPROCS(was)
	}
}

// When Pave answers, when a range ends, and when it is left, no goroutine is left.
func TestNoneIsLeftRunning(t *testing.T) {
	before := running()
	gone := func(how string) {
		t.Helper()
		if !settled(before) {
			t.Fatalf("%s: %d goroutines, %d before", how, running(), before)
		}
	}
	for _, s := range searches() {
		want := s.wanted()
		for _, workers := range []int{1, 2, 16} {
			s.l.Workers = workers
			paved(t, s.goals, s.b, s.l)
			gone("Pave")
			walk := walks(t, s.goals, s.b, s.l)
			gone("Walk")
			round(walk)
			gone("a range")
			for _, n := range []int{1, 2, len(want) / 2, len(want)} {
				some(walk, max(n, 1))
				gone("a range that was left")
			}
		}
	}
	for range 300 {
		s := searches()[3]
		walk := walks(t, s.goals, s.b, s.l)
		for range walk {
			break
		}
		paved(t, s.goals, s.b, s.l)
		sieve.Pave(s.goals, nil, s.l)
	}
	gone("all of it")
}

// No more goroutines work than were asked for, however many boxes wait.
func TestNoMoreThanAskedFor(t *testing.T) {
	const others = 3 // that the library may have run in between
	goals, b := []api.Goal{unsure(2)}, box{iv(0, 1), iv(0, 1)}
	before := running()
	for _, workers := range []int{1, 2, 5, 16} {
		if !settled(before) {
			t.Fatal("goroutines are left running")
		}
		l := api.Limits{Boxes: 20000, Rounds: 99, Workers: workers}
		done := make(chan bool)
		go func() {
			sieve.Pave(goals, b, l)
			close(done)
		}()
		most := 0
		for asked := true; asked; {
			most = max(most, running())
			select {
			case <-done:
				asked = false
			default:
				runtime.Gosched()
			}
		}
		if most > before+1+workers+others {
			t.Errorf("with %d workers: %d goroutines, %d before", workers, most, before)
		}
	}
}

// Calls and ranges disturb one another in nothing: one behind the other, in any order, or at one time, on
// the same lists, over the same functions.
func TestCallsAtOneTime(t *testing.T) {
	type call struct {
		search
		found         []given
		boxes, rounds int
	}
	var calls []call
	for _, s := range searches() {
		c := call{search: s}
		c.l.Boxes = min(c.l.Boxes, 200)
		c.found, c.boxes, c.rounds = wanted(c.goals, c.b, c.l)
		calls = append(calls, c)
	}
	shared := walks(t, calls[0].goals, calls[0].b, calls[0].l)
	var group sync.WaitGroup
	for worker := range 8 {
		group.Add(1)
		go func() {
			defer group.Done()
			for i := range calls {
				c := calls[(i*(worker+1)+worker)%len(calls)]
				c.l.Workers = 1 + (i+worker)%api.MaxWorkers
				answers(t, c.goals, c.b, c.l, gathered(c.found, c.boxes, c.rounds))
				gives(t, c.goals, c.b, c.l, c.found)
				n := min(1+i*worker, len(calls[0].found))
				if got := some(shared, n); !slices.EqualFunc(got, calls[0].found[:n], sameGiven) {
					t.Errorf("left at number %d: %v", n, got)
				}
				for kind, b := range shared {
					if kind < sieve.Inner || kind > sieve.Left {
						t.Errorf("%d %v", kind, b)
					}
					spoil(b, empty)
				}
			}
		}()
	}
	group.Wait()
}
