package expr

import (
	"verge/api"
	"verge/pack"
)

// head: what a program's bytes begin with; constLen: how many bytes a constant has.
const (
	head     = "VG\x01"
	constLen = 16
)

// laid tells the bytes of a program with which nothing is wrong.
func laid(p api.Program) []byte {
	b := append([]byte(head), byte(p.Vars))
	b = layWord(b, len(p.Consts))
	for _, x := range p.Consts {
		b = append(b, pack.Put(x)...)
	}
	b = layWord(b, len(p.Code))
	for _, in := range p.Code {
		b = layLine(b, in)
	}
	return b
}

// layWord lays a number down as two bytes: of one below 0 these are those of 65536 and the number.
func layWord(b []byte, n int) []byte { return append(b, byte(n), byte(n>>8)) }

func layLine(b []byte, in api.Ins) []byte {
	b = append(b, byte(in.Op))
	from := [...]int{in.A, in.B, in.C}
	for i := range operands(in.Op) {
		b = layWord(b, from[i])
	}
	if numbered(in.Op) {
		b = layWord(b, in.N)
	}
	return b
}

// reader takes a program's bytes up, part by part. When a part is wrong, it stays at that place, and
// whatever else is asked for is 0.
type reader struct {
	b     []byte
	at    int // where the next part begins; if one was wrong, the place that is told
	wrong bool
}

func (r *reader) program() (p api.Program) {
	for _, x := range []byte(head) {
		r.small(bounds{int(x), int(x)})
	}
	p.Vars = r.small(varsBounds())
	for range r.word(constsBounds()) {
		p.Consts = append(p.Consts, r.constant())
	}
	for line := range r.word(codeBounds()) {
		p.Code = append(p.Code, r.line(p.Vars, line, len(p.Consts)))
	}
	return p
}

func (r *reader) line(vars, line, consts int) (in api.Ins) {
	in.Op = r.small(opBounds())
	var from [3]int
	for i := range operands(in.Op) {
		from[i] = r.word(operandBounds(vars, line))
	}
	in.A, in.B, in.C = from[0], from[1], from[2]
	if numbered(in.Op) {
		in.N = r.word(numberBounds(in.Op, consts))
	}
	return in
}

// end: behind the last part there is nothing.
func (r *reader) end() {
	if !r.wrong && r.at < len(r.b) {
		r.stop(r.at)
	}
}

// constant takes up a constant.
func (r *reader) constant() api.Interval {
	form := r.part(constLen)
	if r.wrong {
		return api.Interval{}
	}
	x, e := pack.Get(form)
	if e != api.OK {
		r.stop(r.at - constLen)
	}
	return x
}

// small takes up a number of one byte.
func (r *reader) small(may bounds) int {
	b := r.part(1)
	if r.wrong {
		return 0
	}
	return r.held(int(b[0]), may, 1)
}

// word takes up a number of two bytes. It has a sign, as a power may: where there is to be none, one
// that would be too great is below 0, which is as wrong.
func (r *reader) word(may bounds) int {
	b := r.part(2)
	if r.wrong {
		return 0
	}
	return r.held(int(int16(uint16(b[0])|uint16(b[1])<<8)), may, 2)
}

// held tells a number that was taken up, if it may be.
func (r *reader) held(n int, may bounds, size int) int {
	if !may.hold(n) {
		r.stop(r.at - size)
		return 0
	}
	return n
}

// part tells the next bytes, so many; none, if something was wrong, or they are not all there.
func (r *reader) part(size int) []byte {
	if !r.wrong && size > len(r.b)-r.at {
		r.stop(len(r.b))
	}
	if r.wrong {
		return nil
	}
	r.at += size
	return r.b[r.at-size : r.at : r.at]
}

func (r *reader) stop(at int) { r.at, r.wrong = at, true }
