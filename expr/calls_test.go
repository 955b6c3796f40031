package expr_test

import (
	"sync"
	"testing"

	"verge/api"
	"verge/expr"
)

// P16.10 and R4

func counts(t *testing.T, g *expr.Engine, want int) {
	t.Helper()
	if n := g.Calls(); n != want {
		t.Errorf("%d calls, want %d", n, want)
	}
}

func TestCalls(t *testing.T) {
	g, other := made(t, root()), made(t, root())
	counts(t, g, 0)
	counts(t, g, 0) // to be asked for it is no call
	two := box{iv(1, 4), iv(1, 4)}
	asked := []func(){
		func() { g.Eval(two) },
		func() { g.Trace(two) },
		func() { g.EvalDeco([]api.Deco{dv(1, 4, api.Com), dv(1, 4, api.Com)}) },
		func() { g.Eval(nil) },
		func() { g.Trace(two[:1]) },
		func() { g.EvalDeco(make([]api.Deco, 3)) },
		func() { g.Eval(box{empty, iv(nan, 1)}) },
		func() { g.Trace(box{empty, iv(1, 2)}) },
		func() { g.EvalDeco([]api.Deco{nai, dv(1, 2, api.Com)}) },
		func() { g.EvalDeco([]api.Deco{{X: empty, D: api.Trv}, dv(1, 2, api.Com)}) },
		func() { g.EvalDeco([]api.Deco{dv(-4, -1, api.Com), dv(1, 2, api.Com)}) },
	}
	for round := range 3 {
		for i, ask := range asked {
			ask()
			counts(t, g, round*len(asked)+i+1)
		}
	}
	counts(t, other, 0)
	expr.Check(root())
	expr.Encode(root())
	expr.New(root())
	counts(t, g, 3*len(asked))
}

// Each kind of call as the first one that an engine is asked.
func TestFirstCalls(t *testing.T) {
	for range 3 {
		g := made(t, root())
		evals(t, g, iv(2, 8), iv(1, 4), iv(1, 4))
		counts(t, g, 1)
		g = made(t, root())
		evalsDeco(t, g, dv(2, 8, api.Com), dv(1, 4, api.Com), dv(1, 4, api.Com))
		counts(t, g, 1)
		g = made(t, root())
		traces(t, g, box{iv(1, 4), iv(1, 4)}, iv(1, 16), iv(1, 4), iv(2, 8))
		counts(t, g, 1)
		g = made(t, root())
		g.Eval(nil)
		evals(t, g, empty, empty, iv(1, 4))
		evals(t, g, iv(2, 8), iv(1, 4), iv(1, 4))
		counts(t, g, 3)
	}
}

// atOnce begins so many goroutines, which all wait for one another ahead of what they do.
func atOnce(count int, do func(k int)) {
	var all sync.WaitGroup
	begin := make(chan bool)
	for k := range count {
		all.Go(func() {
			<-begin
			do(k)
		})
	}
	close(begin)
	all.Wait()
}

// Engines that are asked for the first time by several at one time.
func TestFirstAskedAtOneTime(t *testing.T) {
	d := dice(16040)
	for range 200 {
		p := d.any()
		g := made(t, p)
		b := list(p.Vars, d.part)
		dressed := d.dressed(b)
		atOnce(6, func(k int) {
			switch lines, y, _ := goneThrough(p, b); k % 3 {
			case 0:
				evals(t, g, y, b...)
			case 1:
				evalsDeco(t, g, decorated(p, dressed), dressed...)
			default:
				traces(t, g, b, lines...)
			}
		})
		counts(t, g, 6)
	}
}

// One engine, asked by several at one time, of boxes of their own and of one that all have; each call
// is counted, refusals too, and the count never falls.
func TestAskedAtOneTime(t *testing.T) {
	d := dice(16041)
	p := d.program(3, 3, 9, d.bounded)
	g := made(t, p)
	shared := box{iv(1, 2), iv(3, 4), iv(-1, 5)}
	dressed := []api.Deco{dv(1, 2, api.Com), dv(3, 4, api.Dac), dv(-1, 5, api.Def)}
	atOnce(8, func(k int) {
		d := dice(16100 + k)
		last := 0
		for i := range 150 {
			b := list(3, d.part)
			runByWords(t, g, p, b, d.dressed(b))
			runByWords(t, g, p, shared, dressed)
			g.Eval(shared[:i%3])
			n := g.Calls()
			if n < last+7 || n > 8*150*7 {
				t.Errorf("%d calls behind %d", n, last)
			}
			last = n
		}
	})
	counts(t, g, 8*150*7)
}

// The calls that are no engine's, by several at one time, of one program and of the same bytes.
func TestProgramsAtOneTime(t *testing.T) {
	d := dice(16042)
	programs := list(100, d.any)
	atOnce(8, func(k int) {
		for i := range programs {
			p := programs[(i*(2*k+1)+17*k)%len(programs)]
			check(t, p, 0, api.OK)
			encodes(t, p, formOf(p))
			decodes(t, formOf(p), p)
		}
	})
}
