package sheet

import (
	"strings"

	"verge/api"
	"verge/deco"
	"verge/infix"
	"verge/lit"
)

// known is what the names stand for.
type known map[string]thing

// thing is what a name may stand for. None is ever changed, so things may share what they are made of.
type thing interface {
	kind() string
	shown() ([]string, error)
}

// listed is a thing that is made of decorated parts.
type listed interface {
	thing
	parts() []api.Deco
}

type interval api.Deco

type box []api.Deco

// formula is a program, and the names of its variables.
type formula struct {
	program api.Program
	names   []string
}

type goal struct {
	of formula
	in api.Interval
}

func (x interval) kind() string { return "interval" }
func (b box) kind() string      { return "box" }
func (f formula) kind() string  { return "form" }
func (g goal) kind() string     { return "goal" }

func (x interval) parts() []api.Deco { return []api.Deco{api.Deco(x)} }
func (b box) parts() []api.Deco      { return b }

func (x interval) shown() ([]string, error) { return exactDecos(x.parts()...), nil }
func (b box) shown() ([]string, error)      { return exactDecos(b...), nil }

func (f formula) shown() ([]string, error) {
	text, e := infix.Print(f.program, f.names)
	if e != api.OK {
		return nil, e
	}
	return []string{text}, nil
}

func (g goal) shown() ([]string, error) {
	text, err := g.of.shown()
	if err != nil {
		return nil, err
	}
	return append([]string{"in " + lit.Exact(g.in)}, text...), nil
}

// bare tells a box without its decorations.
func (b box) bare() []api.Interval {
	var out []api.Interval
	for _, part := range b {
		out = append(out, part.X)
	}
	return out
}

// boxOf tells a box of bare parts, each as sure as it can be.
func boxOf(parts []api.Interval) box {
	var out box
	for _, x := range parts {
		out = append(out, deco.New(x))
	}
	return out
}

// item reads an item: a name that stands for an interval, or a literal that begins like one. (An
// uncertain literal may begin with a point: as an item it is none.)
func (k known) item(text string) (api.Deco, error) {
	if isName(text) {
		if x, ok := k[text].(interval); ok {
			return api.Deco(x), nil
		}
		return api.Deco{}, api.ErrName
	}
	if text == "" || !strings.Contains("[-+0123456789", text[:1]) {
		return api.Deco{}, api.ErrLine
	}
	x, at, e := lit.ReadDeco(text)
	if e != api.OK {
		return api.Deco{}, placed{e, at}
	}
	return x, nil
}

// box reads the items that a box is made of. Of several wrong ones the first is told, whatever it is.
func (k known) box(text string) (box, error) {
	if text == "" {
		return nil, nil
	}
	var out box
	for _, piece := range strings.Split(text, ";") {
		x, err := k.item(strings.Trim(piece, blanks))
		if err != nil {
			return nil, err
		}
		out = append(out, x)
	}
	return out, nil
}
