package fold

import "sync"

// pieceLen places are work enough to outweigh the way over a channel.
const pieceLen = 256

// piece is a part of a list: its first place, and the first one behind it.
type piece struct{ from, to int }

// gathered tells the bounds of what take lays in for each place below count. Sums are exact, so it
// makes no difference which worker takes what, nor in which order.
func gathered(count, workers int, take func(b *bounds, at int)) *bounds {
	pieces := make(chan piece)
	parts := make([]bounds, min(workers, (count+pieceLen-1)/pieceLen)) // more would have nothing to do
	var all sync.WaitGroup
	for i := range parts {
		all.Go(func() {
			for p := range pieces {
				for at := p.from; at < p.to; at++ {
					take(&parts[i], at)
				}
			}
		})
	}
	for from := 0; from < count; from += pieceLen {
		pieces <- piece{from, min(from+pieceLen, count)}
	}
	close(pieces)
	all.Wait()
	return merged(parts)
}

func merged(parts []bounds) *bounds {
	var whole bounds
	for i := range parts {
		whole.merge(&parts[i])
	}
	return &whole
}
