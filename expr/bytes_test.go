package expr_test

import (
	"bytes"
	"testing"

	"verge/api"
	"verge/expr"
)

// P16.3 and P16.4

func encodes(t *testing.T, p api.Program, want []byte) {
	t.Helper()
	if b, e := expr.Encode(p); e != api.OK || !bytes.Equal(b, want) {
		t.Errorf("Encode(%s) = % x, %d; want % x", shown(p), cut(b), e, cut(want))
	}
}

func joined(pieces ...[]byte) []byte { return bytes.Join(pieces, nil) }

// begin tells the bytes ahead of the lines, of a program with so many variables and these constants,
// as many as there are forms.
func begin(vars byte, consts ...[]byte) []byte {
	return joined([]byte{86, 71, 1, vars}, two(len(consts)), joined(consts...))
}

func oneTwo() []byte { return joined(eight(1), eight(2)) }

func TestEncodeWrittenOut(t *testing.T) {
	for _, row := range []struct {
		p    api.Program
		want []byte
	}{
		{api.Program{Vars: 1, Code: []api.Ins{{Op: api.OpId}}}, []byte{86, 71, 1, 1, 0, 0, 1, 0, 2, 0, 0}},
		{api.Program{Consts: box{iv(1, 2)}, Code: []api.Ins{{Op: api.OpConst}}},
			[]byte{86, 71, 1, 0, 1, 0, 0, 0, 0, 0, 0, 0, 240, 63, 0, 0, 0, 0, 0, 0, 0, 64, 1, 0, 1, 0, 0}},
		{api.Program{Consts: box{empty}, Code: []api.Ins{{Op: api.OpConst}}},
			[]byte{86, 71, 1, 0, 1, 0, 0, 0, 0, 0, 0, 0, 240, 127, 0, 0, 0, 0, 0, 0, 240, 255, 1, 0, 1, 0, 0}},
		{api.Program{Vars: 32, Code: []api.Ins{{Op: api.OpFMA, A: 31, B: 1, C: 2}}}, []byte{86, 71, 1, 32, 0, 0, 1, 0, 11, 31, 0, 1, 0, 2, 0}},
		{api.Program{Vars: 5, Code: []api.Ins{{Op: api.OpPown, A: 4, N: 3}}}, []byte{86, 71, 1, 5, 0, 0, 1, 0, 12, 4, 0, 3, 0}},
		{api.Program{Vars: 5, Code: []api.Ins{{Op: api.OpPown, A: 4, N: 1024}}}, []byte{86, 71, 1, 5, 0, 0, 1, 0, 12, 4, 0, 0, 4}},
		{api.Program{Vars: 5, Code: []api.Ins{{Op: api.OpPown, A: 4, N: -1}}}, []byte{86, 71, 1, 5, 0, 0, 1, 0, 12, 4, 0, 255, 255}},
		{api.Program{Vars: 5, Code: []api.Ins{{Op: api.OpPown, A: 4, N: -256}}}, []byte{86, 71, 1, 5, 0, 0, 1, 0, 12, 4, 0, 0, 255}},
		{api.Program{Vars: 5, Code: []api.Ins{{Op: api.OpPown, A: 4, N: -1024}}}, []byte{86, 71, 1, 5, 0, 0, 1, 0, 12, 4, 0, 0, 252}},
	} {
		encodes(t, row.p, row.want)
		decodes(t, row.want, row.p)
	}
	many := fixed(256, 1024)
	b, _ := expr.Encode(many)
	if len(b) != 4+2+256*16+2+1024*3 || !bytes.Equal(b[4:6], []byte{0, 1}) || !bytes.Equal(b[4102:4104], []byte{0, 4}) || !bytes.Equal(b[len(b)-3:], []byte{1, 255, 0}) {
		t.Errorf("Encode of 256 constants and 1024 lines: %d bytes", len(b))
	}
	late, _ := expr.Encode(sums(32, 1024))
	if !bytes.Equal(late[len(late)-5:], []byte{4, 30, 4, 31, 0}) { // 1054 and 31
		t.Errorf("Encode's last line: %d", late[len(late)-5:])
	}
}

// How many bytes each operation's line has.
func TestEncodeEachOperation(t *testing.T) {
	sizes := []int{3, 3, 3, 5, 5, 5, 5, 3, 3, 3, 7, 5, 3, 5, 5, 3, 3, 3, 3, 3, 3}
	for i, op := range ops() {
		p := api.Program{Vars: 3, Consts: box{iv(1, 2)}, Code: []api.Ins{{Op: op}}}
		b, e := expr.Encode(p)
		if e != api.OK || len(b) != 24+sizes[i] || b[24] != byte(op) || op != i+1 {
			t.Errorf("operation %d: % x, %d", op, b, e)
		}
		decodes(t, b, p)
		in := api.Ins{Op: op}
		for k, name := range uses(op) {
			if op != api.OpConst {
				*field(&in, name) = []int{2, 1, 2}[k]
			}
		}
		p.Code = []api.Ins{in}
		encodes(t, p, formOf(p))
		decodes(t, formOf(p), p)
	}
}

func TestEncodeSamples(t *testing.T) {
	for _, p := range samples() {
		encodes(t, p, formOf(p))
		decodes(t, formOf(p), p)
	}
}

// With an error there are no bytes.
func TestEncodeRefused(t *testing.T) {
	for _, f := range faults() {
		p := api.Program{Vars: 2, Consts: box{iv(1, 2), iv(3, 4)}}
		for at := range 4 {
			p.Code = append(p.Code, api.Ins{Op: api.OpPown, A: at, N: 2})
		}
		f.turn(&p)
		if b, e := expr.Encode(p); len(b) != 0 || e != f.e {
			t.Errorf("Encode(%s) = % x, %d", shown(p), cut(b), e)
		}
	}
}

// Bytes that end ahead of the end, each number of them; and with some more.
func TestDecodeEachLength(t *testing.T) {
	for _, p := range samples() {
		b := formOf(p)
		step := 1 + len(b)/2000
		for n := 0; n < len(b); n += step {
			refuses(t, b[:n], n)
			refuses(t, b[:n:n], n)
		}
		for n := max(0, len(b)-20); n < len(b); n++ {
			refuses(t, b[:n], n)
		}
		for _, more := range [][]byte{{0}, {1}, {86}, {255}, {2, 0, 0}, b, make([]byte, 100)} {
			refuses(t, joined(b, more), len(b))
		}
	}
	refuses(t, nil, 0)
	refuses(t, []byte{}, 0)
	refuses(t, make([]byte, 5)[:0], 0)
}

// Each byte made each other one; of a long form some of both.
func TestDecodeEachByte(t *testing.T) {
	for _, p := range samples() {
		b := formOf(p)
		places, values := 1+len(b)/400, 1+len(b)/90
		for at := 0; at < len(b); at += places {
			for x := at % values; x < 256; x += values {
				decodeByWords(t, with(b, at, byte(x)))
			}
		}
	}
}

func TestDecodeHead(t *testing.T) {
	good := rootForm()
	for at, want := range []byte{86, 71, 1} {
		for x := range 256 {
			if byte(x) != want {
				refuses(t, with(good, at, byte(x)), at)
				refuses(t, with(good, at, byte(x))[:at+1], at) // though no more is there
			}
		}
	}
	refuses(t, []byte("GV\x01"), 0)
	for vars := range 256 {
		b := with(append(begin(0, oneTwo()), 1, 0, 1, 0, 0), 3, byte(vars))
		if vars <= 32 {
			decodes(t, b, api.Program{Vars: vars, Consts: box{iv(1, 2)}, Code: []api.Ins{{Op: api.OpConst}}})
		} else {
			refuses(t, b, 3)
		}
	}
}

func TestDecodeCounts(t *testing.T) {
	for _, n := range []int{0, 1, 2, 255, 256} {
		p := api.Program{Vars: 1, Consts: list(n, func() api.Interval { return iv(1, 2) }), Code: []api.Ins{{Op: api.OpNeg}}}
		decodes(t, formOf(p), p)
	}
	room := make([]byte, 1<<20+100)
	for _, n := range []int{257, 258, 511, 512, 32767, 32768, 65280, 65535} {
		b := joined([]byte{86, 71, 1, 1}, two(n), room[:16*n], []byte{1, 0, 3, 0, 0})
		refuses(t, b, 4)
		refuses(t, b[:6], 4) // a count that is wrong is told ahead of what is missing
		refuses(t, b[:5], 5)
	}
	for _, n := range []int{1, 2, 255, 256, 257, 1023, 1024} {
		p := sums(1, n)
		decodes(t, formOf(p), p)
	}
	for _, n := range []int{0, 1025, 1026, 1280, 2048, 32767, 32768, 64512, 65535} {
		b := joined(begin(1), two(n), bytes.Repeat([]byte{3, 0, 0}, n))
		refuses(t, b, 6)
		refuses(t, b[:8], 6)
		refuses(t, b[:7], 7)
	}
}

func TestDecodeConstants(t *testing.T) {
	end := []byte{1, 0, 3, 0, 0}
	for _, x := range valids() {
		p := api.Program{Vars: 1, Consts: box{iv(1, 2), x, iv(1, 2)}, Code: []api.Ins{{Op: api.OpNeg}}}
		decodes(t, joined(begin(1, oneTwo(), joined(eight(x.Lo), eight(x.Hi)), oneTwo()), end), p)
	}
	for _, x := range wrongs() {
		bad := joined(eight(x.Lo), eight(x.Hi))
		refuses(t, joined(begin(1, bad), end), 6)
		refuses(t, joined(begin(1, bad)), 6)
		refuses(t, joined(begin(1, oneTwo(), bad), end), 22)
		refuses(t, joined(begin(1, oneTwo(), bad, bad), end), 22)
		refuses(t, joined(begin(1, oneTwo(), oneTwo(), bad), []byte{0, 0}), 38)
		refuses(t, joined(begin(1, oneTwo(), bad))[:37], 37) // of a part that is not all there only that is told
	}
	two := begin(1, oneTwo(), oneTwo())
	for n := 6; n < len(two); n++ {
		refuses(t, two[:n], n)
	}
}

// Of a line each part, at what it may be, next to it, and far off.
func TestDecodeLines(t *testing.T) {
	numbers := []int{0, 1, 2, 3, 4, 5, 6, 7, 8, 31, 32, 33, 127, 128, 255, 256, 257, 259, 512, 1023, 1024, 1025, 1026, 1280, 32767, 32768, 64256, 64510, 64511, 64512, 64513, 65279, 65280, 65533, 65534, 65535}
	for _, vars := range []int{0, 1, 3, 32} {
		for _, consts := range [][][]byte{nil, {oneTwo()}, {oneTwo(), oneTwo(), oneTwo(), oneTwo()}} {
			for _, op := range ops() {
				head := joined(begin(byte(vars), consts...), []byte{2, 0})
				size := 2 * len(uses(op))
				for k := 0; k < size; k += 2 {
					for _, n := range numbers {
						form := append([]byte{byte(op)}, make([]byte, size)...)
						copy(form[1+k:], two(n))
						decodeByWords(t, joined(head, form, []byte{3, 0, 0}))
						decodeByWords(t, joined(head, form, []byte{3, byte(vars), 0}))
						decodeByWords(t, joined(head, []byte{2, 0, 0}, form))
						decodeByWords(t, joined(head, form))
					}
				}
			}
		}
	}
}

func TestDecodeLinesWrittenOut(t *testing.T) {
	for _, row := range []struct {
		lines []byte
		place int // behind the 24 bytes ahead; -1: nothing is wrong
	}{
		{[]byte{1, 0, 1, 0, 0}, -1},
		{[]byte{1, 0, 1, 1, 0}, 3},       // there is one constant
		{[]byte{1, 0, 1, 0, 1}, 3},       // so many there cannot be
		{[]byte{1, 0, 1, 255, 255}, 3},   // nor is it -1
		{[]byte{1, 0, 2, 0, 0}, -1},      // the variable
		{[]byte{1, 0, 2, 1, 0}, 3},       // the line itself
		{[]byte{1, 0, 2, 255, 255}, 3},   // nothing
		{[]byte{1, 0, 4, 0, 0, 1, 0}, 5}, // the second operand
		{[]byte{1, 0, 4, 1, 0, 1, 0}, 3}, // both
		{[]byte{1, 0, 11, 0, 0, 0, 0, 1, 0}, 7},
		{[]byte{1, 0, 11, 0, 0, 0, 0, 0, 0}, -1},
		{[]byte{1, 0, 12, 0, 0, 0, 4}, -1}, // 1024
		{[]byte{1, 0, 12, 0, 0, 1, 4}, 5},  // 1025
		{[]byte{1, 0, 12, 0, 0, 0, 252}, -1},
		{[]byte{1, 0, 12, 0, 0, 255, 251}, 5}, // -1025
		{[]byte{1, 0, 12, 0, 0, 255, 127}, 5},
		{[]byte{1, 0, 12, 0, 0, 0, 128}, 5},
		{[]byte{1, 0, 12, 1, 0, 255, 127}, 3}, // the operand stands ahead
		{[]byte{1, 0, 0, 0, 0}, 2},
		{[]byte{1, 0, 22, 0, 0}, 2},
		{[]byte{1, 0, 255}, 2},
		{[]byte{2, 0, 3, 0, 0, 3, 1, 0}, -1},
		{[]byte{2, 0, 3, 0, 0, 3, 2, 0}, 6},
		{[]byte{2, 0, 3, 0, 0, 22, 2, 0}, 5},
		{[]byte{2, 0, 3, 0, 0}, 5}, // one line too few
		{[]byte{1, 0, 3, 0, 0, 3, 0, 0}, 5},
		{[]byte{1}, 1},
		{[]byte{0, 0}, 0},
		{nil, 0},
	} {
		b := joined(begin(1, oneTwo())[:22], row.lines)
		if row.place >= 0 {
			refuses(t, b, 22+row.place)
		} else if _, at, e := expr.Decode(b); at != 0 || e != api.OK {
			t.Errorf("Decode(% x): %d, %d", b, at, e)
		}
	}
}

// Programs' bytes with some changed, left out, put in, and bytes by chance.
func TestDecodeByChance(t *testing.T) {
	d := dice(16020)
	for range 60000 {
		b := formOf(d.any())
		for range d.below(3) {
			at := d.below(len(b) + 1)
			switch d.below(5) {
			case 0:
				b = b[:at]
			case 1:
				b = joined(b[:at], []byte{byte(d.below(256))}, b[at:])
			case 2:
				b = joined(b[:at], b[min(len(b), at+1+d.below(3)):])
			default:
				b = with(append(b, 0), at, pick(&d, byte(d.next()), byte(d.below(24)), 0, 255))[:len(b)]
			}
		}
		decodeByWords(t, b)
	}
	for range 20000 {
		decodeByWords(t, list(d.below(40), func() byte { return byte(d.below(23)) }))
		b := append([]byte{86, 71, 1}, list(d.below(40), func() byte { return byte(d.below(4)) })...)
		decodeByWords(t, b)
	}
}

// P16.11: each program has one form, and each form one program.
func TestThereAndBack(t *testing.T) {
	d := dice(16021)
	for _, p := range append(samples(), list(5000, d.any)...) {
		b, e := expr.Encode(p)
		if e != api.OK {
			t.Fatalf("Encode(%s): %d", shown(p), e)
		}
		decodes(t, b, p)
	}
	taken := 0
	for range 400000 {
		b := append([]byte{86, 71, 1, byte(d.below(3)), 0, 0, byte(1 + d.below(2)), 0}, list(3+d.below(8), func() byte { return byte(d.below(13) * d.below(2)) })...)
		if p, _, e := expr.Decode(b); e == api.OK {
			taken++
			encodes(t, p, b)
			if line, e := expr.Check(p); line != 0 || e != api.OK {
				t.Errorf("Check of what Decode(% x) answers: %d, %d", b, line, e)
			}
		}
	}
	if taken < 1000 {
		t.Errorf("only %d were programs", taken)
	}
}
