package sieve_test

import (
	"testing"

	"verge/api"
	"verge/sieve"
)

// The rows of the chapter's examples, and the one of the document's page that plays a part here.

func TestExamples(t *testing.T) {
	g, h := []api.Goal{root2()}, []api.Goal{inPart(1, 0, iv(1, 2))}
	l := api.Limits{Width: 0.5, Boxes: 9, Rounds: 9, Workers: 1}
	answers(t, h, box{iv(0, 3)}, l, api.Paving{Inner: []box{{iv(1, 2)}}, Boxes: 1, Rounds: 1})
	answers(t, g, box{iv(3, 4)}, l, api.Paving{Boxes: 1, Rounds: 1})
	l.Width = 1
	answers(t, g, box{iv(0, 2)}, l, api.Paving{Edge: []box{{iv(0x1.6a09e667f3bccp+0, 0x1.6a09e667f3bcdp+0)}}, Boxes: 1, Rounds: 1})
	answers(t, g, box{empty}, l, api.Paving{})
	refused(t, nil, box{iv(0, 2)}, l, api.ErrGoals)
	refused(t, g, box{iv(0, 2), iv(0, 2)}, l, api.ErrBox)
	l.Boxes = 0
	answers(t, g, box{iv(0, 2)}, l, api.Paving{Left: []box{{iv(0, 2)}}})
	l.Width = -1
	refused(t, g, box{iv(0, 2)}, l, api.ErrLimit)
	l.Width, l.Workers = 1, 0
	refused(t, g, box{iv(0, 2)}, l, api.ErrLimit)
}

// The seventh one of the whole.
func TestExampleOfTheWhole(t *testing.T) {
	goals := []api.Goal{inPart(1, 0, iv(1, 2))}
	l := api.Limits{Width: 0.5, Boxes: 9, Rounds: 9, Workers: 4}
	answers(t, goals, box{iv(0, 3)}, l, api.Paving{Inner: []box{{iv(1, 2)}}, Boxes: 1, Rounds: 1})
	gives(t, goals, box{iv(0, 3)}, l, []given{{sieve.Inner, box{iv(1, 2)}}})
}

func TestKinds(t *testing.T) {
	if sieve.Inner != 1 || sieve.Edge != 2 || sieve.Left != 3 {
		t.Error(sieve.Inner, sieve.Edge, sieve.Left)
	}
}
