package sieve

import (
	"iter"
	"sync"
	"sync/atomic"

	"verge/api"
)

// crew is the workers of a round, and what lies between them and the one who gathers.
type crew struct {
	boxes [][]api.Interval
	next  atomic.Int64 // the number of the box that is claimed next
	busy  atomic.Int64 // so many workers may still send
	found chan placed
	over  chan struct{} // closed by the last worker: nothing more is sent
	all   sync.WaitGroup
}

// placed is what comes of the box of that number.
type placed struct {
	find
	at int
}

// finds gives what comes of each box, in the boxes' order: each as soon as it and all ahead of it are
// there. However the range is left, the workers have ended then.
func (s *search) finds(boxes [][]api.Interval) iter.Seq[find] {
	return func(yield func(find) bool) {
		c := s.hire(boxes)
		defer c.dismiss() // where yield panics, too
		due, early := 0, map[int]find{}
		for p, more := c.await(); more; p, more = c.await() {
			early[p.at] = p.find
			for f, ok := early[due]; ok; f, ok = early[due] {
				delete(early, due)
				due++
				if !yield(f) {
					return
				}
			}
		}
	}
}

// hire sets workers to boxes, of which there is one at least.
func (s *search) hire(boxes [][]api.Interval) *crew {
	c := &crew{boxes: boxes, found: make(chan placed), over: make(chan struct{})}
	workers := min(s.limits.Workers, len(boxes)) // more would have nothing to do
	c.busy.Store(int64(workers))
	for range workers {
		c.all.Go(func() { c.work(s.look) })
	}
	return c
}

// work looks at boxes, until all are claimed.
func (c *crew) work(look func([]api.Interval) find) {
	count := int64(len(c.boxes))
	for at := c.next.Add(1) - 1; at < count; at = c.next.Add(1) - 1 {
		c.found <- placed{look(c.boxes[at]), int(at)}
	}
	if c.busy.Add(-1) == 0 {
		close(c.over)
	}
}

// await tells what comes next, of whichever box; not more: nothing comes any more. The workers' sends
// are taken one by one, and the last of them is behind when over is closed: so never are both ready.
func (c *crew) await() (p placed, more bool) {
	select {
	case p = <-c.found:
		return p, true
	case <-c.over:
		return placed{}, false
	}
}

// dismiss leaves no box to be claimed, and waits until all workers have ended.
func (c *crew) dismiss() {
	c.next.Store(int64(len(c.boxes)))
	for more := true; more; {
		_, more = c.await()
	}
	c.all.Wait()
}
