package sheet_test

import (
	"maps"
	"slices"
	"strings"
)

// What the tests hand in.

// dice are numbers that look like chance, the same at every run.
type dice uint64

func (d *dice) next() uint64 {
	*d ^= *d << 13
	*d ^= *d >> 7
	*d ^= *d << 17
	return uint64(*d) * 0x2545f4914f6cdd1d
}

func (d *dice) below(n int) int { return int(d.next() >> 1 % uint64(n)) }

func pick[T any](d *dice, l ...T) T { return l[d.below(len(l))] }

// list tells n things, each told by tell.
func list[T any](n int, tell func() T) []T {
	out := make([]T, n)
	for i := range out {
		out[i] = tell()
	}
	return out
}

// wordsFor are words that have a form, most of them such that something comes of them.
func wordsFor(form string) []string {
	switch form {
	case "N":
		return []string{"0", "1", "2", "3", "9", "16", "17", "40", "999999999"}
	case "M":
		return []string{"0", "-0", "1", "2", "-1", "-2", "3", "1024", "-1025"}
	case "W":
		return []string{"1", "0.5", "1/3", "0x1p0", "1e400", "-0", ".75", "-1"}
	case "HEX":
		return []string{"56470102000001000400000100", "564701010100000000000000f03f000000000000f03f02000100000400000100", "5647010200000100060000010", "00", "564701020000010004000002", "56470102000001000c00000300"}
	case "WORD":
		var out []string
		for word := range operations {
			out = append(out, word)
		}
		slices.Sort(out)
		return out
	case "KIND":
		return []string{"sum", "abs", "squares", "mean", "norm2"}
	case "ITEM":
		return []string{"a", "a", "c", "[1,2]", "[]", "[nai]", "[-1,3]_def", "[,]", "[0]_trv", "-1?", "3?1", "0?u", "[1/3]", "[2,1]", "[1", "q"}
	case "BOX", "LISTED":
		return []string{"b", "b", "b", "d", "d", "e", "n", "a"}
	case "FORMULA":
		return []string{"f", "f", "h", "k", "m", "a"}
	case "GOAL":
		return []string{"g", "g", "i", "j", "f"}
	case "KEPT":
		return []string{"a", "b", "c", "d", "e", "f", "g", "h", "j", "k", "m", "n", "q"}
	}
	return []string{"a", "b", "c", "d", "e", "f", "g", "h", "j", "k", "n", "q", "x", "y"}
}

// restsFor are texts to stand behind the = of a command.
func restsFor(command string) []string {
	switch command {
	case "let":
		return []string{"[1, 2]", "[1,2]_def", "[]", "[nai]", "3?1", ".5?5", "[1/3, 2]", "[,1]", "a", "", "[2, 1]", "[1, 2]_co", "[1e10000]", "= [1]"}
	case "box":
		return []string{"[0, 4]; [3, 9]", "[1, 2]; [3]", "a; c", "a;[nai]", "[]; [1]", "[-8,8];[-1, 1]_def", "[1]", "", "[1, 2]; a; 1?", "[1];", "q;[", "[;q", ".5?;a", "b", "[0,\t4]_trv ; a"}
	case "form":
		return []string{"x + y", "x*y - 1", "s = x - y; s^2", "sqrt(x) + y", "1/x", "x", "y + [1, 2]", "floor(x)*y", "7", "x +", "q", "x^1025", "fma(x, y, [-1, 1])", "x + 0/[-1,1]", "", "x = y"}
	case "goal":
		return []string{"[5]", "[1, 2]", "[,]", "[-4, 4]", "[]", "3?1", "a", "[2, 1]", "[1]_com", ""}
	}
	return []string{"", "x", "[1]"}
}

// strays are words of all forms and of none.
func strays() []string {
	return []string{"a", "b", "e", "f", "g", "h", "q", "x", "0", "1", "2", "-1", "-0", "00", "1000000000", "0.5", "1/2", "[1,2]", "[nai]", "[2,1]", "[", "-", "+", "3?", ".5?", "=", "==", "a=", "=a", ";", "[1];[2]", "#", "#a", "add", "neg", "fma", "pown", "sqrt", "sum", "mean", "vars", "names", "5647", "00ff", "00FF", "5", "\r", "\xff", "\u00e4", strings.Repeat("a", 65)}
}

// setting keeps things of each kind, whatever was kept ahead.
const setting = "vars\nform m = 7\ngoal i m = [7]\nvars x y\nlet a = [1, 2]\nlet c = [-1, 3]_def\nbox b = [0, 4]; [3, 9]\nbox d = [-8, 8]_def; a\nbox e =\nbox n = [nai]; [1]\nform f = x + y\nform h = x*y - 1\nload k 5647010200000100050000" + "0100\ngoal g f = [5]\ngoal j h = [,]\n"

// line tells a line of some command, most words of which have their forms.
func (d *dice) line(rows map[string]row) string {
	commands := slices.Sorted(maps.Keys(rows))
	command := pick(d, commands...)
	if d.below(3) > 0 && (command == "clear" || command == "drop" || command == "vars") {
		command = pick(d, commands...)
	}
	words := append([]string{command}, d.words(rows[command].line)...)
	if strings.HasSuffix(rows[command].line, "REST") {
		words = append(words, pick(d, restsFor(command)...))
	}
	if d.below(6) == 0 {
		at := d.below(len(words))
		words = slices.Insert(words, at, pick(d, strays()...))
	}
	if d.below(12) == 0 {
		at := d.below(len(words))
		words = slices.Delete(words, at, at+1)
	}
	out := ""
	for _, word := range words {
		out += pick(d, "", "", "", " ", "\t") + word + pick(d, " ", " ", " ", "\t", " \t ")
	}
	if d.below(2) == 0 {
		out = strings.TrimRight(out, " \t")
	}
	return out
}

// words tells words behind a command, by what its row asks for.
func (d *dice) words(row string) []string {
	row = strings.TrimSuffix(row, " REST")
	var out []string
	args := 1
	for _, form := range strings.Fields(row) {
		times := 1
		if cut, ok := strings.CutSuffix(form, ".."); ok {
			form, times = cut, args
		} else if cut, ok := strings.CutSuffix(form, "*"); ok {
			form, times = cut, d.below(4)
		} else if cut, ok := strings.CutSuffix(form, "+"); ok {
			form, times = cut, 1+d.below(3)
		}
		for range times {
			word := form
			if form != "=" {
				word = pick(d, wordsFor(form)...)
			}
			if d.below(25) == 0 {
				word = pick(d, strays()...)
			}
			args = max(operations[word].args, args)
			out = append(out, word)
		}
	}
	return out
}

// sheet tells some lines behind the setting, with lines that say nothing among them.
func (d *dice) sheet(n int) string {
	out, rows := setting, table()
	for range n {
		switch d.below(30) {
		case 0:
			out += pick(d, "", " ", "\t", "# let a = [7]", " #", "#\xff\r") + "\n"
		case 1:
			out += setting
		}
		out += d.line(rows) + "\n"
	}
	return out
}

// shake tells a text with bytes changed, left out or put in.
func (d *dice) shake(text string) string {
	b := []byte(text)
	for range 1 + d.below(6) {
		at := d.below(len(b))
		stray := pick(d, byte(d.next()), " \t\n#=;[],_-+0123456789abfgx"[d.below(26)])
		switch d.below(3) {
		case 0:
			b[at] = stray
		case 1:
			b = slices.Delete(b, at, at+1)
		case 2:
			b = slices.Insert(b, at, stray)
		}
	}
	return string(b)
}
