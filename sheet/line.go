package sheet

import (
	"strings"

	"verge/api"
	"verge/digits"
)

const blanks = " \t"

// line is a line that is read word by word. What is wrong with its words is kept until all are read: only
// then is it known which fault is told.
type line struct {
	text  string // what is not read yet
	known known
	fault error // the one that is told, of those found so far
}

// word reads the next word; where there is none any more, the text of no bytes, which has no word's form.
func (l *line) word() string {
	rest := strings.TrimLeft(l.text, blanks)
	end := strings.IndexAny(rest, blanks)
	if end < 0 {
		end = len(rest)
	}
	l.text = rest[end:]
	return rest[:end]
}

// more tells whether there are further words.
func (l *line) more() bool {
	l.text = strings.TrimLeft(l.text, blanks)
	return l.text != ""
}

// end tells what is wrong with the line, when its words have been read.
func (l *line) end() error {
	l.must(!l.more())
	return l.fault
}

// must asks that a word has the form that stands in its place.
func (l *line) must(fits bool) {
	if !fits {
		l.blame(api.ErrLine)
	}
}

// blame keeps a fault, if none that was found comes ahead of it.
func (l *line) blame(err error) {
	if gravity(err) > gravity(l.fault) {
		l.fault = err
	}
}

// gravity: wherever they stand in a line, a wrong form comes ahead of a wrong name, and that ahead of
// what a call refuses.
func gravity(err error) int {
	switch err {
	case nil:
		return 0
	case api.ErrLine:
		return 3
	case api.ErrName:
		return 2
	}
	return 1
}

func (l *line) name() string {
	word := l.word()
	l.must(isName(word))
	return word
}

// names reads all names that are left.
func (l *line) names() []string {
	var out []string
	for l.more() {
		out = append(out, l.name())
	}
	return out
}

// find tells what a name stands for, which is to be of a kind.
func find[T thing](l *line, name string) T {
	if x, ok := l.known[name].(T); ok {
		return x
	}
	l.blame(api.ErrName)
	var none T
	return none
}

// next reads a name that is to stand for a thing of a kind.
func next[T thing](l *line) T { return find[T](l, l.name()) }

// goals reads all goals that are left, of which there is to be one at least.
func (l *line) goals() []api.Goal {
	l.must(l.more())
	var out []api.Goal
	for l.more() {
		g := next[goal](l)
		out = append(out, api.Goal{P: g.of.program, C: g.in})
	}
	return out
}

func (l *line) number() int {
	n, ok := numberOf(l.word())
	l.must(ok)
	return n
}

// whole reads a number that may be below 0.
func (l *line) whole() int {
	size, below := strings.CutPrefix(l.word(), "-")
	n, ok := numberOf(size)
	l.must(ok)
	if below {
		return -n
	}
	return n
}

func (l *line) width() float64 {
	x, _, e := digits.Read(api.Up, l.word())
	l.must(e == api.OK)
	return x
}

func (l *line) bytes() []byte {
	b, ok := bytesOf(l.word())
	l.must(ok)
	return b
}

func (l *line) operation() operation {
	o, ok := operationOf(l.word())
	l.must(ok)
	return o
}

func (l *line) folding() folding {
	f, ok := foldings()[l.word()]
	l.must(ok)
	return f
}

func (l *line) item() api.Deco {
	x, err := l.known.item(l.word())
	l.blame(err)
	return x
}

// items reads n items.
func (l *line) items(n int) []api.Deco {
	var out []api.Deco
	for range n {
		out = append(out, l.item())
	}
	return out
}

// rest reads the word = and all that stands behind it. (None of the words ahead of it has that sign: it
// would not have its form.)
func (l *line) rest() string {
	l.must(l.word() == "=")
	text := strings.Trim(l.text, blanks)
	l.text = ""
	return text
}
