package sheet_test

import (
	"encoding/hex"
	"fmt"
	"regexp"
	"slices"
	"strings"

	"verge/api"
	"verge/deco"
	"verge/digits"
	"verge/expr"
	"verge/fold"
	"verge/infix"
	"verge/lit"
	"verge/pare"
	"verge/sieve"
	"verge/slope"
)

// The chapter's words, as they stand: a line is held against its row of the table form by form, then name
// by name, then literal by literal; only then is anything done. What the other layers answer is held
// against their chapters where they are built.

// row is a line of the table: what stands behind the command (.. is as many of the word ahead of it as
// the operation has arguments; * none or any number, + one at least), and what is done.
type row struct {
	line string
	do   func(p *player, w *given) []string
}

// given is what the words of a line stand for, those of one form in one list.
type given struct {
	names    []string
	numbers  []int
	width    float64
	bytes    []byte
	op       operation
	kind     string
	items    []api.Deco
	boxes    [][]api.Deco
	formulas []formula
	goals    []goal
	things   []any
	rest     string
}

type operation struct{ op, args int }

type formula struct {
	p     api.Program
	names []string
}

type goal struct {
	formula
	c api.Interval
}

// player is what is kept, and the table that a sheet is played by.
type player struct {
	variables []string
	kept      map[string]any
	rows      map[string]row
}

// trouble is what a line says, when something is wrong with it.
type trouble string

func give(e api.Errno) {
	if e != api.OK {
		panic(trouble(fmt.Sprintf("error %d", e)))
	}
}

func giveAt(at int, e api.Errno) {
	if e != api.OK {
		panic(trouble(fmt.Sprintf("error %d %d", e, at)))
	}
}

// played tells what a text says that is not refused.
func played(text string) string {
	p := &player{kept: map[string]any{}, rows: table()}
	var out strings.Builder
	all := strings.Split(text, "\n")
	if all[len(all)-1] == "" {
		all = all[:len(all)-1]
	}
	for _, line := range all {
		for _, said := range p.line(line) {
			out.WriteString(said + "\n")
		}
	}
	return out.String()
}

var aWord = regexp.MustCompile("[^ \t]+")

func (p *player) line(line string) (said []string) {
	defer func() {
		if bad := recover(); bad != nil {
			said = []string{string(bad.(trouble))}
		}
	}()
	words := aWord.FindAllString(line, -1)
	if len(words) == 0 || words[0][0] == '#' {
		return nil
	}
	r, ok := p.rows[words[0]]
	if !ok {
		give(api.ErrLine)
	}
	w := &given{}
	words = words[1:]
	if head, ok := strings.CutSuffix(r.line, " = REST"); ok {
		r.line = head
		words, w.rest = headAndRest(line)
	}
	p.read(w, formsOf(r.line, words), words)
	return r.do(p, w)
}

// headAndRest parts a line at its first =, which is to be a word of its own.
func headAndRest(line string) ([]string, string) {
	at := strings.Index(line, "=")
	if at < 0 || !strings.ContainsAny(line[at-1:at], " \t") || at+1 < len(line) && !strings.ContainsAny(line[at+1:at+2], " \t") {
		give(api.ErrLine)
	}
	return aWord.FindAllString(line[:at], -1)[1:], strings.Trim(line[at+1:], " \t")
}

// formsOf tells a form for each word.
func formsOf(line string, words []string) []string {
	forms := strings.Fields(line)
	last := len(forms) - 1
	if last < 0 {
		return nil
	}
	once, dots := strings.CutSuffix(forms[last], "..")
	any, none := strings.CutSuffix(forms[last], "*")
	some, one := strings.CutSuffix(forms[last], "+")
	switch {
	case dots:
		args := 1
		if len(words) > 0 {
			args = operations[words[0]].args
		}
		forms = append(forms[:last], slices.Repeat([]string{once}, args)...)
	case none:
		forms = append(forms[:last], slices.Repeat([]string{any}, max(len(words)-last, 0))...)
	case one:
		forms = append(forms[:last], slices.Repeat([]string{some}, max(len(words)-last, 1))...)
	}
	return forms
}

var (
	aName   = regexp.MustCompile(`^[a-zA-Z][a-zA-Z0-9_]{0,63}$`)
	aNumber = regexp.MustCompile(`^(0|[1-9][0-9]{0,8})$`)
	aWhole  = regexp.MustCompile(`^-?(0|[1-9][0-9]{0,8})$`)
	pairs   = regexp.MustCompile(`^([0-9a-f][0-9a-f])+$`)
	begins  = regexp.MustCompile(`^[-+\[0-9]`)
)

var formulaWords = strings.Fields("id sqr sqrt recip fma pown abs min max sign floor ceil trunc even away")

func isName(word string) bool { return aName.MatchString(word) && !slices.Contains(formulaWords, word) }

// has tells whether a word has a form.
func has(form, word string) bool {
	switch form {
	case "N":
		return aNumber.MatchString(word)
	case "M":
		return aWhole.MatchString(word)
	case "W":
		_, _, e := digits.Read(api.Near, word)
		return e == api.OK
	case "HEX":
		return pairs.MatchString(word)
	case "WORD":
		_, ok := operations[word]
		return ok
	case "KIND":
		return slices.Contains([]string{"sum", "abs", "squares", "mean", "norm2"}, word)
	case "ITEM":
		return isName(word) || begins.MatchString(word)
	}
	return isName(word)
}

// fits tells whether a thing is of the kind that a form wants.
func fits(form string, x any) bool {
	switch x.(type) {
	case api.Deco:
		return form == "ITEM" || form == "LISTED" || form == "KEPT"
	case []api.Deco:
		return form == "BOX" || form == "LISTED" || form == "KEPT"
	case formula:
		return form == "FORMULA" || form == "KEPT"
	case goal:
		return form == "GOAL" || form == "KEPT"
	}
	return false
}

func (p *player) read(w *given, forms, words []string) {
	if len(forms) != len(words) {
		give(api.ErrLine)
	}
	for i, form := range forms {
		if !has(form, words[i]) {
			give(api.ErrLine)
		}
	}
	for i, form := range forms {
		wanted := slices.Contains([]string{"ITEM", "BOX", "FORMULA", "GOAL", "LISTED", "KEPT"}, form) && isName(words[i])
		if wanted && !fits(form, p.kept[words[i]]) {
			give(api.ErrName)
		}
	}
	for i, form := range forms {
		p.take(w, form, words[i])
	}
}

func (p *player) take(w *given, form, word string) {
	switch form {
	case "N", "M":
		var n int
		fmt.Sscan(word, &n)
		w.numbers = append(w.numbers, n)
	case "W":
		w.width, _, _ = digits.Read(api.Up, word)
	case "HEX":
		w.bytes, _ = hex.DecodeString(word)
	case "WORD":
		w.op = operations[word]
	case "KIND":
		w.kind = word
	case "ITEM":
		w.items = append(w.items, p.item(word))
	case "BOX":
		w.boxes = append(w.boxes, p.kept[word].([]api.Deco))
		w.names = append(w.names, word)
	case "FORMULA":
		w.formulas = append(w.formulas, p.kept[word].(formula))
	case "GOAL":
		w.goals = append(w.goals, p.kept[word].(goal))
	default:
		w.names = append(w.names, word)
		w.things = append(w.things, p.kept[word])
	}
}

func (p *player) item(text string) api.Deco {
	if !has("ITEM", text) {
		give(api.ErrLine)
	}
	if isName(text) {
		x, ok := p.kept[text].(api.Deco)
		if !ok {
			give(api.ErrName)
		}
		return x
	}
	x, at, e := lit.ReadDeco(text)
	giveAt(at, e)
	return x
}

var operations = func() map[string]operation {
	out := map[string]operation{}
	name := func(args int, ops ...int) func(words string) {
		return func(words string) {
			for i, word := range strings.Fields(words) {
				out[word] = operation{ops[i], args}
			}
		}
	}
	name(1, api.OpNeg, api.OpId, api.OpSqr, api.OpSqrt, api.OpRecip, api.OpAbs)("neg id sqr sqrt recip abs")
	name(1, api.OpSign, api.OpFloor, api.OpCeil, api.OpTrunc, api.OpRoundEven, api.OpRoundAway)("sign floor ceil trunc even away")
	name(2, api.OpAdd, api.OpSub, api.OpMul, api.OpDiv, api.OpMin, api.OpMax)("add sub mul div min max")
	name(3, api.OpFMA)("fma")
	return out
}()

func ok(counts ...int) string {
	return strings.TrimSpace("ok " + strings.Trim(fmt.Sprint(counts), "[]"))
}

func bare(b []api.Deco) []api.Interval {
	var out []api.Interval
	for _, x := range b {
		out = append(out, x.X)
	}
	return out
}

func exact(xs ...api.Interval) []string {
	var out []string
	for _, x := range xs {
		out = append(out, lit.Exact(x))
	}
	return out
}

func program(g goal) api.Goal { return api.Goal{P: g.p, C: g.c} }

func programs(gs []goal) []api.Goal {
	var out []api.Goal
	for _, g := range gs {
		out = append(out, program(g))
	}
	return out
}

// table is the chapter's table, by commands.
func table() map[string]row {
	return map[string]row{
		"vars": {"NAME*", (*player).vars}, "let": {"NAME = REST", (*player).let}, "box": {"NAME = REST", (*player).box}, "form": {"NAME = REST", (*player).form},
		"goal": {"NAME FORMULA = REST", (*player).goal}, "show": {"KEPT", (*player).show}, "print": {"N LISTED", (*player).print},
		"op": {"WORD ITEM..", (*player).op}, "pown": {"M ITEM", (*player).pown}, "back": {"WORD N ITEM ITEM..", (*player).back},
		"eval": {"FORMULA BOX", (*player).eval}, "trace": {"FORMULA BOX", (*player).trace}, "slopes": {"FORMULA BOX", (*player).slopes},
		"mean": {"FORMULA BOX", (*player).mean}, "newton": {"FORMULA BOX N", (*player).newton}, "fold": {"KIND N BOX", (*player).fold}, "dot": {"N BOX BOX", (*player).dot},
		"pare": {"N BOX GOAL+", (*player).pare}, "pave": {"W N N N BOX GOAL+", (*player).pave}, "bytes": {"FORMULA", (*player).bytes}, "load": {"NAME HEX", (*player).load},
		"drop": {"KEPT", (*player).drop}, "clear": {"", (*player).clear}, "names": {"", (*player).names},
	}
}

func (p *player) vars(w *given) []string {
	if len(w.names) > api.MaxVars || len(slices.Compact(slices.Sorted(slices.Values(w.names)))) < len(w.names) {
		give(api.ErrName)
	}
	p.variables = w.names
	return []string{ok(len(w.names))}
}

func (p *player) let(w *given) []string {
	x, at, e := lit.ReadDeco(w.rest)
	giveAt(at, e)
	p.kept[w.names[0]] = x
	return []string{"ok"}
}

func (p *player) box(w *given) []string {
	var b []api.Deco
	if w.rest != "" {
		for _, piece := range strings.Split(w.rest, ";") {
			b = append(b, p.item(strings.Trim(piece, " \t")))
		}
	}
	p.kept[w.names[0]] = b
	return []string{ok(len(b))}
}

func (p *player) keep(name string, f formula) []string {
	p.kept[name] = f
	return []string{ok(len(f.p.Code), len(f.p.Consts))}
}

func (p *player) form(w *given) []string {
	q, at, e := infix.Parse(w.rest, p.variables)
	giveAt(at, e)
	return p.keep(w.names[0], formula{q, p.variables})
}

func (p *player) load(w *given) []string {
	q, at, e := expr.Decode(w.bytes)
	giveAt(at, e)
	var names []string
	for i := range q.Vars {
		names = append(names, fmt.Sprintf("v%d", i))
	}
	return p.keep(w.names[0], formula{q, names})
}

func (p *player) goal(w *given) []string {
	c, at, e := lit.Read(w.rest)
	giveAt(at, e)
	p.kept[w.names[0]] = goal{w.formulas[0], c}
	return []string{"ok"}
}

func (p *player) show(w *given) []string {
	printed := func(f formula) string {
		text, e := infix.Print(f.p, f.names)
		give(e)
		return text
	}
	var out []string
	switch x := w.things[0].(type) {
	case api.Deco:
		out = append(out, lit.ExactDeco(x))
	case []api.Deco:
		for _, part := range x {
			out = append(out, lit.ExactDeco(part))
		}
	case formula:
		out = append(out, printed(x))
	case goal:
		out = append(out, "in "+lit.Exact(x.c), printed(x.formula))
	}
	return out
}

func (p *player) print(w *given) []string {
	var out []string
	parts, isBox := w.things[0].([]api.Deco)
	if !isBox {
		parts = []api.Deco{w.things[0].(api.Deco)}
	}
	for _, part := range parts {
		text, e := lit.PrintDeco(part, w.numbers[0])
		give(e)
		out = append(out, text)
	}
	return out
}

func (p *player) op(w *given) []string {
	return []string{lit.ExactDeco(deco.Apply(w.op.op, 0, w.items...))}
}

func (p *player) pown(w *given) []string {
	return []string{lit.ExactDeco(deco.Apply(api.OpPown, w.numbers[0], w.items...))}
}

func (p *player) back(w *given) []string {
	return []string{lit.ExactDeco(deco.BackDeco(w.op.op, 0, w.numbers[0], w.items[0], w.items[1], w.items[2:]...))}
}

func (p *player) eval(w *given) []string {
	g, _ := expr.New(w.formulas[0].p)
	y, e := g.EvalDeco(w.boxes[0])
	give(e)
	return []string{lit.ExactDeco(y)}
}

func (p *player) trace(w *given) []string {
	g, _ := expr.New(w.formulas[0].p)
	values, e := g.Trace(bare(w.boxes[0]))
	give(e)
	return exact(values...)
}

func (p *player) slopes(w *given) []string {
	value, slopes, e := slope.Slopes(w.formulas[0].p, bare(w.boxes[0]))
	give(e)
	return exact(append([]api.Interval{value}, slopes...)...)
}

func (p *player) mean(w *given) []string {
	y, e := slope.MeanValue(w.formulas[0].p, bare(w.boxes[0]))
	give(e)
	return exact(y)
}

func (p *player) newton(w *given) []string {
	y, e := slope.Newton(w.formulas[0].p, bare(w.boxes[0]), w.numbers[0])
	give(e)
	return exact(y)
}

func (p *player) fold(w *given) []string {
	b, workers := bare(w.boxes[0]), w.numbers[0]
	var y api.Interval
	var e api.Errno
	switch w.kind {
	case "sum":
		y, e = fold.Sum(b, workers)
	case "abs":
		y, e = fold.Abs(b, workers)
	case "squares":
		y, e = fold.Squares(b, workers)
	case "mean":
		y, e = fold.Mean(b, workers)
	case "norm2":
		y, e = fold.Norm2(b, workers)
	}
	give(e)
	return exact(y)
}

func (p *player) dot(w *given) []string {
	y, e := fold.Dot(bare(w.boxes[0]), bare(w.boxes[1]), w.numbers[0])
	give(e)
	return exact(y)
}

func (p *player) pare(w *given) []string {
	left, made, e := pare.Fix(programs(w.goals), bare(w.boxes[0]), w.numbers[0])
	give(e)
	var b []api.Deco
	for _, x := range left {
		b = append(b, deco.New(x))
	}
	p.kept[w.names[0]] = b
	return append([]string{ok(made)}, exact(left...)...)
}

func (p *player) pave(w *given) []string {
	l := api.Limits{Width: w.width, Boxes: w.numbers[0], Rounds: w.numbers[1], Workers: w.numbers[2]}
	found, e := sieve.Pave(programs(w.goals), bare(w.boxes[0]), l)
	give(e)
	out := []string{ok(len(found.Inner), len(found.Edge), len(found.Left), found.Boxes, found.Rounds)}
	for i, list := range [][][]api.Interval{found.Inner, found.Edge, found.Left} {
		for _, b := range list {
			out = append(out, strings.TrimSpace([]string{"inner", "edge", "left"}[i]+" "+strings.Join(exact(b...), " ")))
		}
	}
	return out
}

func (p *player) bytes(w *given) []string {
	b, e := expr.Encode(w.formulas[0].p)
	give(e)
	return []string{hex.EncodeToString(b)}
}

func (p *player) drop(w *given) []string {
	delete(p.kept, w.names[0])
	return []string{"ok"}
}

func (p *player) clear(*given) []string {
	p.kept = map[string]any{}
	return []string{"ok"}
}

func (p *player) names(*given) []string {
	var all, out []string
	for name := range p.kept {
		all = append(all, name)
	}
	slices.Sort(all)
	for _, name := range all {
		kind := "interval"
		switch p.kept[name].(type) {
		case []api.Deco:
			kind = "box"
		case formula:
			kind = "form"
		case goal:
			kind = "goal"
		}
		out = append(out, name+" "+kind)
	}
	return out
}
