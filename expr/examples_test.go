package expr_test

import (
	"bytes"
	"encoding/hex"
	"testing"

	"verge/api"
	"verge/expr"
)

// The rows of the chapter's examples, and those of the document's page that programs play a part in.

func rootForm() []byte {
	return []byte{86, 71, 1, 2, 0, 0, 3, 0, 6, 0, 0, 1, 0, 10, 2, 0, 4, 3, 0, 0, 0}
}

// with tells the bytes with one made another one.
func with(b []byte, at int, x byte) []byte {
	b = bytes.Clone(b)
	b[at] = x
	return b
}

func TestExamplesOfCheck(t *testing.T) {
	for _, row := range []struct {
		turn func(p *api.Program)
		line int
		e    api.Errno
	}{
		{func(p *api.Program) {}, 0, api.OK},
		{func(p *api.Program) { p.Vars = 33 }, 0, api.ErrVars},
		{func(p *api.Program) { p.Consts = box{iv(2, 1)} }, 0, api.ErrConst},
		{func(p *api.Program) { p.Code = nil }, 0, api.ErrCode},
		{func(p *api.Program) { p.Code[0].C = 1 }, 0, api.ErrOperand},
		{func(p *api.Program) { p.Code[1].Op = 22 }, 1, api.ErrOp},
		{func(p *api.Program) { p.Code[1].A = 4 }, 1, api.ErrOperand},
		{func(p *api.Program) { p.Vars = -1 }, 0, api.ErrVars},
	} {
		p := root()
		row.turn(&p)
		check(t, p, row.line, row.e)
	}
}

func TestExamplesOfBytes(t *testing.T) {
	if b, e := expr.Encode(root()); e != api.OK || !bytes.Equal(b, rootForm()) {
		t.Errorf("Encode = %d, %d", b, e)
	}
	decodes(t, rootForm(), root())
	refuses(t, rootForm()[:20], 20)
	refuses(t, append(rootForm(), 0), 21)
	refuses(t, with(rootForm(), 8, 22), 8)
	refuses(t, with(rootForm(), 14, 3), 14)
	refuses(t, with(rootForm(), 6, 0), 6)
}

func TestExamplesOfRuns(t *testing.T) {
	g := made(t, root())
	evals(t, g, iv(2, 8), iv(1, 4), iv(1, 4))
	traces(t, g, box{iv(1, 4), iv(1, 4)}, iv(1, 16), iv(1, 4), iv(2, 8))
	evalsDeco(t, g, dv(2, 8, api.Com), dv(1, 4, api.Com), dv(1, 4, api.Com))
	evalsDeco(t, g, dv(-1, 8, api.Trv), dv(-1, 4, api.Com), dv(1, 4, api.Com))
	evalsDeco(t, g, dv(2, inf, api.Dac), dv(1, inf, api.Dac), dv(1, 1, api.Com))
	if y, e := g.Eval(box{iv(1, 2)}); e != api.ErrBox || y != iv(0, 0) {
		t.Errorf("Eval of one part = %v, %d", y, e)
	}
	evals(t, g, empty, iv(1, 2), empty)
	evals(t, g, empty, iv(-2, -1), iv(1, 2))
	evalsDeco(t, g, api.Deco{X: empty, D: api.Trv}, dv(-2, -1, api.Com), dv(1, 2, api.Com))
	id := made(t, api.Program{Vars: 2, Code: []api.Ins{{Op: api.OpId, A: 0}}})
	evalsDeco(t, id, dv(1, 2, api.Def), dv(1, 2, api.Com), dv(0, 1, api.Def))
	evalsDeco(t, id, nai, dv(1, 2, api.Com), nai)
	evalsDeco(t, id, api.Deco{X: empty, D: api.Trv}, dv(1, 2, api.Com), api.Deco{X: empty, D: api.Trv})
}

// The first three of the whole, the fifth and the tenth one.
func TestExamplesOfTheWhole(t *testing.T) {
	square := made(t, api.Program{Vars: 1, Code: []api.Ins{{Op: api.OpMul, A: 0, B: 0}}})
	evalsDeco(t, square, dv(-2, 4, api.Com), dv(-1, 2, api.Com))
	power := made(t, api.Program{Vars: 1, Code: []api.Ins{{Op: api.OpPown, A: 0, N: 2}}})
	evalsDeco(t, power, dv(0, 4, api.Com), dv(-1, 2, api.Com))
	ratio := made(t, api.Program{Vars: 2, Consts: box{iv(1, 1)}, Code: []api.Ins{{Op: api.OpConst}, {Op: api.OpDiv, A: 2, B: 0}, {Op: api.OpAdd, A: 3, B: 1}}})
	evalsDeco(t, ratio, dv(2, inf, api.Trv), dv(0, 1, api.Com), dv(1, 2, api.Com))
	first := made(t, api.Program{Vars: 2, Code: []api.Ins{{Op: api.OpId, A: 0}}})
	evalsDeco(t, first, nai, dv(1, 2, api.Com), nai)
	next := api.Program{Vars: 1, Consts: box{iv(1, 1)}, Code: []api.Ins{{Op: api.OpConst}, {Op: api.OpAdd, A: 0, B: 1}}}
	const form = "564701010100000000000000f03f000000000000f03f02000100000400000100"
	b, e := expr.Encode(next)
	if hex.EncodeToString(b) != form || e != api.OK {
		t.Errorf("Encode = %x, %d", b, e)
	}
	decodes(t, b, next)
}
