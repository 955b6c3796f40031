package infix_test

import (
	"fmt"
	"math"
	"math/big"
	"regexp"
	"slices"
	"strconv"
	"strings"
	"testing"

	"verge/api"
	"verge/digits"
	"verge/infix"
	"verge/lit"
)

// What is asked, by the chapter's words: tokens by regular expressions, the grammar by its rules as they
// stand there, the meaning by two stacks. What numerals and literals say is told by packages digits and lit.

const greatest = math.MaxFloat64

var (
	inf    = math.Inf(1)
	nan    = math.NaN()
	least  = math.SmallestNonzeroFloat64
	signed = math.Copysign(0, -1)
	empty  = api.Interval{Lo: inf, Hi: -inf}
	entire = api.Interval{Lo: -inf, Hi: inf}
)

type box = []api.Interval

func iv(lo, hi float64) api.Interval { return api.Interval{Lo: lo, Hi: hi} }

// same compares ends bit by bit.
func same(x, y api.Interval) bool {
	return math.Float64bits(x.Lo) == math.Float64bits(y.Lo) && math.Float64bits(x.Hi) == math.Float64bits(y.Hi)
}

func sameProgram(p, q api.Program) bool {
	return p.Vars == q.Vars && slices.EqualFunc(p.Consts, q.Consts, same) && slices.Equal(p.Code, q.Code)
}

// shown tells a program, of a long one its beginning.
func shown(p api.Program) string {
	return fmt.Sprintf("vars %d, %d constants %x, %d lines %v", p.Vars, len(p.Consts), p.Consts[:min(3, len(p.Consts))], len(p.Code), p.Code[:min(8, len(p.Code))])
}

func cut(text string) string { return text[:min(len(text), 120)] }

// Names: P17.1.

var allWords = strings.Fields("id sqr sqrt recip fma pown abs min max sign floor ceil trunc even away")

func wordList() []string { return slices.Clone(allWords) }

var nameForm = regexp.MustCompile(`\A[a-zA-Z][a-zA-Z0-9_]*\z`)

func nameMayBe(name string) bool {
	return len(name) <= 64 && nameForm.MatchString(name) && !slices.Contains(allWords, name)
}

func namesMayBe(names []string) bool {
	seen := map[string]bool{}
	for _, name := range names {
		if !nameMayBe(name) || seen[name] {
			return false
		}
		seen[name] = true
	}
	return len(names) <= 32
}

// Tokens: P17.2.

// tok is a token: its kind is what the grammar calls it: name, whole, numeral, literal; else what is written.
type tok struct {
	kind, text string
	at         int
}

func longest(form string) *regexp.Regexp {
	r := regexp.MustCompile(form)
	r.Longest()
	return r
}

var (
	blankForm   = regexp.MustCompile(`\A[\x20\x09\x0a\x0d]+`)
	wordForm    = regexp.MustCompile(`\A[a-zA-Z][a-zA-Z0-9_]*`)
	numeralForm = longest(`\A([0-9]+\.?[0-9]*([eE][-+]?[0-9]+)?|0[xX]([0-9a-fA-F]+\.?[0-9a-fA-F]*|\.[0-9a-fA-F]+)[pP][-+]?[0-9]+)`)
	literalForm = regexp.MustCompile(`\A\[[^\]]*\]`)
	signForm    = regexp.MustCompile(`\A[-+*/^(),;=]`)
	wholeForm   = regexp.MustCompile(`\A(0|[1-9][0-9]*)\z`)
)

// tokenOf tells the token that a text begins with; its kind is "", if there is none.
func tokenOf(rest string) (kind, text string) {
	if word := wordForm.FindString(rest); word != "" {
		if len(word) > 64 {
			return "", ""
		}
		if slices.Contains(allWords, word) {
			return word, word
		}
		return "name", word
	}
	if numeral := numeralForm.FindString(rest); numeral != "" {
		if _, _, e := digits.Read(api.Near, numeral); e != api.OK {
			return "", ""
		}
		if wholeForm.MatchString(numeral) {
			return "whole", numeral
		}
		return "numeral", numeral
	}
	if literal := literalForm.FindString(rest); literal != "" {
		if _, _, e := lit.Read(literal); e != api.OK {
			return "", ""
		}
		return "literal", literal
	}
	sign := signForm.FindString(rest)
	return sign, sign
}

// tokensOf tells a text's tokens up to the first place where there is none, and that place; it is -1, if
// there is no such place.
func tokensOf(text string) (toks []tok, none int) {
	for at := 0; ; {
		at += len(blankForm.FindString(text[at:]))
		if at == len(text) {
			return toks, -1
		}
		kind, found := tokenOf(text[at:])
		if kind == "" {
			return toks, at
		}
		toks = append(toks, tok{kind, found, at})
		at += len(found)
	}
}

// The grammar: P17.3.

// rules tells, by its name, each rule's choices; what has no rule is a token.
func rules() map[string][][]string {
	out := map[string][][]string{}
	for line := range strings.Lines(`
formula = name = sum ; formula
formula = sum
sum = product sums
sums =
sums = + product sums
sums = - product sums
product = signed products
products =
products = * signed products
products = / signed products
signed = - signed
signed = power
power = atom raised
raised =
raised = ^ exponent
exponent = whole
exponent = - whole
atom = numeral
atom = literal
atom = name
atom = ( sum )
atom = pown ( sum , exponent )
atom = min ( sum , sum )
atom = max ( sum , sum )
atom = fma ( sum , sum , sum )`) {
		if f := strings.Fields(line); len(f) > 0 {
			out[f[0]] = append(out[f[0]], f[2:])
		}
	}
	for _, word := range strings.Fields("id sqr sqrt recip abs sign floor ceil trunc even away") {
		out["atom"] = append(out["atom"], []string{word, "(", "sum", ")"})
	}
	return out
}

var grammar = rules()

// awaited is what may still come: tokens and rules, one behind the other; nil: the end.
type awaited struct {
	next string
	then *awaited
}

// behindToken tells all that may come behind a token of a kind.
func behindToken(a *awaited, kind string) []*awaited {
	if a == nil {
		return nil
	}
	if grammar[a.next] == nil {
		if fits(a.next, kind) {
			return []*awaited{a.then}
		}
		return nil
	}
	var out []*awaited
	for _, choice := range grammar[a.next] {
		if len(choice) > 0 && grammar[choice[0]] == nil && !fits(choice[0], kind) {
			continue
		}
		b := a.then
		for _, x := range slices.Backward(choice) {
			b = &awaited{x, b}
		}
		out = append(out, behindToken(b, kind)...)
	}
	return out
}

func fits(token, kind string) bool { return token == kind || token == "numeral" && kind == "whole" }

// follow goes on by one token.
func follow(may []*awaited, kind string) []*awaited {
	var out []*awaited
	for _, a := range may {
		out = append(out, behindToken(a, kind)...)
	}
	return out
}

// mayEnd tells whether nothing need come: each rule that is awaited has the choice of nothing.
func mayEnd(may []*awaited) bool {
	return slices.ContainsFunc(may, func(a *awaited) bool {
		for ; a != nil; a = a.then {
			if !slices.ContainsFunc(grammar[a.next], func(choice []string) bool { return len(choice) == 0 }) {
				return false
			}
		}
		return true
	})
}

func start() []*awaited { return []*awaited{{"formula", nil}} }

// textFault tells where ErrText is, and how many tokens stand ahead of that; -1, if there is none.
func textFault(text string, toks []tok, none int) (at, ahead int) {
	may := start()
	for i, t := range toks {
		if may = follow(may, t.kind); len(may) == 0 {
			return t.at, i
		}
	}
	switch {
	case none >= 0:
		return none, len(toks)
	case !mayEnd(may):
		return len(text), len(toks)
	}
	return -1, len(toks)
}

// Faults: P17.5.

// places tells what brackets and minuses do: at each token how many are open with it, and whether it is a
// `(` or a `-` that counts; whether it is a whole that is a power.
type places struct {
	open   int
	counts bool
	power  bool
}

// looked goes through tokens that begin a formula.
func looked(toks []tok) []places {
	out := make([]places, len(toks))
	var open []string // "-", or "(" and the word ahead of it
	close := func() {
		for len(open) > 0 && open[len(open)-1] == "-" {
			open = open[:len(open)-1]
		}
	}
	kind := func(i int) string {
		if i < 0 {
			return ""
		}
		return toks[i].kind
	}
	powerNext := func(i int) bool { // ahead of i
		return kind(i-1) == "^" || kind(i-1) == "," && len(open) > 0 && open[len(open)-1] == "(pown"
	}
	for i, t := range toks {
		switch t.kind {
		case "(":
			word := ""
			if slices.Contains(allWords, kind(i-1)) {
				word = kind(i - 1)
			}
			open = append(open, "("+word)
			out[i].counts = true
		case ")":
			close()
			open = open[:len(open)-1]
		case "-":
			ends := slices.Contains([]string{"name", "whole", "numeral", "literal", ")"}, kind(i-1))
			switch {
			case ends:
				close()
			case !powerNext(i):
				open = append(open, "-")
				out[i].counts = true
			}
		case "+", "*", "/", ",", ";":
			close()
		case "whole":
			out[i].power = powerNext(i) || kind(i-1) == "-" && powerNext(i-1)
		}
		out[i].open = len(open)
	}
	return out
}

// given tells whether a name is given at a place among the tokens.
func given(toks []tok, i int) bool {
	return (i == 0 || toks[i-1].kind == ";") && i+1 < len(toks) && toks[i+1].kind == "="
}

// firstFault tells the fault with the least place.
func firstFault(text string, names []string, toks []tok, none int) (at int, e api.Errno) {
	end, ahead := textFault(text, toks, none)
	known := slices.Clone(names)
	pending := ""
	for i, here := range looked(toks[:ahead]) {
		t := toks[i]
		switch {
		case t.kind == "name" && given(toks, i):
			if slices.Contains(known, t.text) {
				return t.at, api.ErrName
			}
			pending = t.text
		case t.kind == "name" && !slices.Contains(known, t.text):
			return t.at, api.ErrName
		case t.kind == ";":
			known = append(known, pending)
		case here.counts && here.open > 200:
			return t.at, api.ErrDeep
		case here.power:
			if n, _ := new(big.Int).SetString(t.text, 10); n.Cmp(big.NewInt(1024)) > 0 {
				return t.at, api.ErrPower
			}
		}
	}
	if end >= 0 {
		return end, api.ErrText
	}
	return 0, api.OK
}

// Meaning: P17.4.

// works is a formula on its way to a program: operands that wait, and operations that wait for more.
type works struct {
	p       api.Program
	values  []int
	waiting []string
	powers  []int
}

func (w *works) line(in api.Ins) {
	w.p.Code = append(w.p.Code, in)
	w.values = append(w.values, w.p.Vars+len(w.p.Code)-1)
}

var opOf = map[string]int{"+": api.OpAdd, "-": api.OpSub, "*": api.OpMul, "/": api.OpDiv, "neg": api.OpNeg, "id": api.OpId, "sqr": api.OpSqr, "sqrt": api.OpSqrt, "recip": api.OpRecip, "fma": api.OpFMA, "pown": api.OpPown,
	"abs": api.OpAbs, "min": api.OpMin, "max": api.OpMax, "sign": api.OpSign, "floor": api.OpFloor, "ceil": api.OpCeil, "trunc": api.OpTrunc, "even": api.OpRoundEven, "away": api.OpRoundAway}

// do makes a line of an operation by its name, of the values that wait.
func (w *works) do(name string) {
	op := opOf[name]
	in := api.Ins{Op: op}
	used := strings.TrimSuffix(uses(op), "N")
	from := len(w.values) - len(used)
	for i, field := range used {
		*fieldOf(&in, field) = w.values[from+i]
	}
	w.values = w.values[:from]
	if op == api.OpPown {
		in.N = w.powers[len(w.powers)-1]
		w.powers = w.powers[:len(w.powers)-1]
	}
	w.line(in)
}

// settle does the operations that wait and bind at least so strongly, up to the last bracket.
func (w *works) settle(strength int) {
	for len(w.waiting) > 0 && binds(w.waiting[len(w.waiting)-1]) >= strength {
		w.do(w.pop())
	}
}

func (w *works) pop() string {
	last := w.waiting[len(w.waiting)-1]
	w.waiting = w.waiting[:len(w.waiting)-1]
	return last
}

func binds(name string) int {
	return map[string]int{"(": 0, "+": 1, "-": 1, "*": 2, "/": 2, "neg": 3}[name]
}

// meaning tells the program of tokens that are a formula without a fault.
func meaning(toks []tok, names []string) api.Program {
	w := works{p: api.Program{Vars: len(names)}}
	stands := map[string]int{}
	for i, name := range names {
		stands[name] = i
	}
	pending := ""
	looks := looked(toks)
	for i, t := range toks {
		switch {
		case t.kind == "name" && given(toks, i):
			pending = t.text
		case t.kind == "name":
			w.values = append(w.values, stands[t.text])
		case looks[i].power:
			n, _ := strconv.Atoi(t.text)
			if toks[i-1].kind == "-" {
				n = -n
			}
			w.powers = append(w.powers, n)
			if toks[i-1].kind == "^" || toks[i-2].kind == "^" {
				w.do("pown")
			}
		case t.kind == "whole" || t.kind == "numeral" || t.kind == "literal":
			w.p.Consts = append(w.p.Consts, said(t))
			w.line(api.Ins{Op: api.OpConst, N: len(w.p.Consts) - 1})
		case t.kind == "(" || slices.Contains(allWords, t.kind):
			w.waiting = append(w.waiting, t.kind)
		case t.kind == ")":
			w.settle(1)
			w.pop()
			if len(w.waiting) > 0 && slices.Contains(allWords, w.waiting[len(w.waiting)-1]) {
				w.do(w.pop())
			}
		case t.kind == ",":
			w.settle(1)
		case t.kind == ";":
			w.settle(1)
			stands[pending], w.values = w.values[0], nil
		case t.kind == "-" && looks[i].counts:
			w.waiting = append(w.waiting, "neg")
		case t.kind == "-" && i+1 < len(toks) && looks[i+1].power:
		case binds(t.kind) > 0:
			w.settle(binds(t.kind))
			w.waiting = append(w.waiting, t.kind)
		}
	}
	w.settle(1)
	if last := w.values[0]; len(w.p.Code) == 0 || last != w.p.Vars+len(w.p.Code)-1 {
		w.line(api.Ins{Op: api.OpId, A: last})
	}
	return w.p
}

// said tells the constant of a token.
func said(t tok) api.Interval {
	if t.kind == "literal" {
		x, _, _ := lit.Read(t.text)
		return x
	}
	lo, _, _ := digits.Read(api.Down, t.text)
	hi, _, _ := digits.Read(api.Up, t.text)
	return iv(lo, hi)
}

// parsed: P17.5.
func parsed(text string, names []string) (p api.Program, at int, e api.Errno) {
	if !namesMayBe(names) {
		return api.Program{}, 0, api.ErrName
	}
	if len(text) > 65536 {
		return api.Program{}, 65536, api.ErrLong
	}
	toks, none := tokensOf(text)
	if at, e := firstFault(text, names, toks, none); e != api.OK {
		return api.Program{}, at, e
	}
	p = meaning(toks, names)
	switch {
	case len(p.Consts) > 256:
		return api.Program{}, len(text), api.ErrConst
	case len(p.Code) > 1024:
		return api.Program{}, len(text), api.ErrCode
	}
	return p, 0, api.OK
}

// Asking Parse.

// parses: the text has this program.
func parses(t *testing.T, text string, names []string, want api.Program) {
	t.Helper()
	if p, at, e := infix.Parse(text, names); e != api.OK || at != 0 || !sameProgram(p, want) {
		t.Errorf("Parse(%q, %v) = %s, %d, %d; want %s", cut(text), names, shown(p), at, e, shown(want))
	}
}

// refuses: the text has a fault, and that is told at a place.
func refuses(t *testing.T, text string, names []string, place int, want api.Errno) {
	t.Helper()
	p, at, e := infix.Parse(text, names)
	if e != want || at != place || !sameProgram(p, api.Program{}) {
		t.Errorf("Parse(%q, %v) = %s, %d, %d; want %d, %d", cut(text), names, shown(p), at, e, place, want)
	}
}

// byWords asks Parse what the chapter's words say; it tells whether the text is a formula.
func byWords(t *testing.T, text string, names ...string) bool {
	t.Helper()
	p, at, e := parsed(text, names)
	if e != api.OK {
		refuses(t, text, names, at, e)
		return false
	}
	parses(t, text, names, p)
	return true
}

// Lines.

// uses tells which of A, B, C and N an operation uses, as package api has it; of none "".
func uses(op int) string {
	if op < api.OpConst || op > api.OpRoundAway {
		return ""
	}
	return []string{"N", "A", "A", "AB", "AB", "AB", "AB", "A", "A", "A", "ABC", "AN", "A", "AB", "AB", "A", "A", "A", "A", "A", "A"}[op-api.OpConst]
}

// ops are all operations.
func ops() []int {
	var out []int
	for op := api.OpConst; op <= api.OpRoundAway; op++ {
		out = append(out, op)
	}
	return out
}

// fieldOf tells where a line keeps A, B, C or N.
func fieldOf(in *api.Ins, name rune) *int {
	return [...]*int{&in.A, &in.B, &in.C, &in.N}[strings.IndexRune("ABCN", name)]
}

// Normal and Print: P17.6, P17.7, of programs with which nothing is wrong.

func normal(p api.Program) api.Program {
	out := api.Program{Vars: p.Vars}
	for _, in := range p.Code {
		if in.Op == api.OpConst {
			out.Consts = append(out.Consts, p.Consts[in.N])
			in = api.Ins{Op: api.OpConst, N: len(out.Consts) - 1}
		}
		out.Code = append(out.Code, in)
	}
	return out
}

// forms tells what is written for each operation: A, B, C and N stand for themselves.
func forms() map[int]string {
	return map[int]string{api.OpId: "id(A)", api.OpNeg: "-A", api.OpAdd: "A + B", api.OpSub: "A - B", api.OpMul: "A * B", api.OpDiv: "A / B", api.OpRecip: "recip(A)", api.OpSqr: "sqr(A)", api.OpSqrt: "sqrt(A)",
		api.OpFMA: "fma(A, B, C)", api.OpPown: "pown(A, N)", api.OpAbs: "abs(A)", api.OpMin: "min(A, B)", api.OpMax: "max(A, B)", api.OpSign: "sign(A)", api.OpFloor: "floor(A)", api.OpCeil: "ceil(A)", api.OpTrunc: "trunc(A)",
		api.OpRoundEven: "even(A)", api.OpRoundAway: "away(A)"}
}

func printed(p api.Program, names []string) string {
	named := map[string]bool{}
	for _, name := range names {
		named[name] = true
	}
	stem := "t"
	for k := 0; k < len(p.Code)-1; k++ {
		if named[fmt.Sprintf("%s%d", stem, k)] {
			stem, k = stem+"_", -1
		}
	}
	operand := func(n int) string {
		if n < p.Vars {
			return names[n]
		}
		return fmt.Sprintf("%s%d", stem, n-p.Vars)
	}
	all, lines := forms(), []string{}
	for k, in := range p.Code {
		text := strings.NewReplacer("A", operand(in.A), "B", operand(in.B), "C", operand(in.C), "N", fmt.Sprint(in.N)).Replace(all[in.Op])
		if in.Op == api.OpConst {
			text = lit.Exact(p.Consts[in.N])
		}
		if k < len(p.Code)-1 {
			text = fmt.Sprintf("%s%d = %s", stem, k, text)
		}
		lines = append(lines, text)
	}
	return strings.Join(lines, "; ")
}
