package sheet_test

import (
	"fmt"
	"math"
	"math/big"
	"regexp"
	"strings"
	"testing"
)

// W1, W2 and W7, from text to text: what is said is held against exact reals.

// set is an interval as it is written; an end that is nil is infinite.
type set struct {
	empty  bool
	lo, hi *big.Rat
	rank   string
}

var aSet = regexp.MustCompile(`^\[(?:(empty)|(entire)|([-0-9.e]+)|([-0-9.e]+|-inf), ([-0-9.e]+|inf))\](?:_(com|dac|def|trv))?$`)

func number(t *testing.T, text string) *big.Rat {
	t.Helper()
	if strings.HasSuffix(text, "inf") {
		return nil
	}
	x, ok := new(big.Rat).SetString(text)
	if !ok {
		t.Fatalf("%s is no number", shown(text))
	}
	return x
}

// setOf tells what a line says.
func setOf(t *testing.T, line string) set {
	t.Helper()
	found := aSet.FindStringSubmatch(line)
	switch {
	case found == nil:
		t.Fatalf("%s is no interval", shown(line))
	case found[1] != "":
		return set{empty: true, rank: found[6]}
	case found[2] != "":
		return set{rank: found[6]}
	case found[3] != "":
		return set{lo: number(t, found[3]), hi: number(t, found[3]), rank: found[6]}
	}
	return set{lo: number(t, found[4]), hi: number(t, found[5]), rank: found[6]}
}

func (s set) holds(x *big.Rat) bool {
	return !s.empty && (s.lo == nil || s.lo.Cmp(x) <= 0) && (s.hi == nil || x.Cmp(s.hi) <= 0)
}

// within tells whether a set lies in another one.
func (s set) within(o set) bool {
	return s.empty || !o.empty && (o.lo == nil || s.lo != nil && s.lo.Cmp(o.lo) >= 0) && (o.hi == nil || s.hi != nil && s.hi.Cmp(o.hi) <= 0)
}

// tree is a formula as text, and how its lines' reals are told at a point: nothing, where one is not
// defined. What a tree is made of comes first among the lines.
type tree struct {
	text string
	of   func(point []*big.Rat, lines *[]*big.Rat) *big.Rat
}

func rat(a, b int64) *big.Rat { return big.NewRat(a, b) }

// growing makes formulas over x and y.
type growing struct {
	*dice
	deep int
}

func (g *growing) leaf() tree {
	n, m := int64(g.below(17)-8), int64(g.below(4))
	constant := func(text string, x *big.Rat) tree {
		return tree{text, func(_ []*big.Rat, lines *[]*big.Rat) *big.Rat {
			*lines = append(*lines, x)
			return x
		}}
	}
	switch g.below(5) {
	case 0:
		return constant(fmt.Sprintf("%d.%d", max(n, -n), m), rat(10*max(n, -n)+m, 10))
	case 1:
		return constant(fmt.Sprintf("[%d/3, %d/3]", n, n+m), pick(g.dice, rat(n, 3), rat(n+m, 3), rat(2*n+m, 6)))
	}
	at := g.below(2)
	return tree{"xy"[at : at+1], func(point []*big.Rat, _ *[]*big.Rat) *big.Rat { return point[at] }}
}

// line tells an operation of trees as a line.
func line(text string, do func(x []*big.Rat) *big.Rat, parts ...tree) tree {
	return tree{text, func(point []*big.Rat, lines *[]*big.Rat) *big.Rat {
		var x []*big.Rat
		for _, part := range parts {
			y := part.of(point, lines)
			if y == nil {
				return nil
			}
			x = append(x, y)
		}
		y := do(x)
		*lines = append(*lines, y)
		return y
	}}
}

func (g *growing) tree() tree {
	if g.deep == 0 || g.below(6) == 0 {
		return g.leaf()
	}
	g.deep--
	defer func() { g.deep++ }()
	a, b := g.tree(), g.tree()
	switch g.below(9) {
	case 0:
		return line("("+a.text+" + "+b.text+")", func(x []*big.Rat) *big.Rat { return new(big.Rat).Add(x[0], x[1]) }, a, b)
	case 1:
		return line("("+a.text+"-"+"("+b.text+"))", func(x []*big.Rat) *big.Rat { return new(big.Rat).Sub(x[0], x[1]) }, a, b)
	case 2:
		return line("("+a.text+")*("+b.text+")", func(x []*big.Rat) *big.Rat { return new(big.Rat).Mul(x[0], x[1]) }, a, b)
	case 3:
		return line("("+a.text+")/("+b.text+")", quotient, a, b)
	case 4:
		return line("recip("+a.text+")", func(x []*big.Rat) *big.Rat { return quotient([]*big.Rat{rat(1, 1), x[0]}) }, a)
	case 5:
		n := g.below(7) - 3
		return line(fmt.Sprintf("(%s)^%d", a.text, n), func(x []*big.Rat) *big.Rat { return power(x[0], n) }, a)
	case 6:
		return line("abs("+a.text+")", func(x []*big.Rat) *big.Rat { return new(big.Rat).Abs(x[0]) }, a)
	case 7:
		return line("floor("+a.text+")", func(x []*big.Rat) *big.Rat { return floor(x[0]) }, a)
	}
	return line("-("+a.text+")", func(x []*big.Rat) *big.Rat { return new(big.Rat).Neg(x[0]) }, a)
}

func quotient(x []*big.Rat) *big.Rat {
	if x[1].Sign() == 0 {
		return nil
	}
	return new(big.Rat).Quo(x[0], x[1])
}

func power(x *big.Rat, n int) *big.Rat {
	y := rat(1, 1)
	for range max(n, -n) {
		y.Mul(y, x)
	}
	if n < 0 {
		return quotient([]*big.Rat{rat(1, 1), y})
	}
	return y
}

func floor(x *big.Rat) *big.Rat {
	return new(big.Rat).SetInt(new(big.Int).Div(x.Num(), x.Denom()))
}

// What eval, trace and mean say holds what the lines are at each point; if the decoration says that the
// formula is defined all over the box, it is.
func TestValuesHeld(t *testing.T) {
	d := dice(21071)
	var points, sure int
	for range 1500 {
		g := &growing{&d, 4}
		f := g.tree()
		// Ends are ratios: what is read of them holds the points between them.
		lo, wide := [2]int64{int64(d.below(41) - 20), int64(d.below(41) - 20)}, [2]int64{int64(d.below(9)), int64(d.below(30))}
		part := func(i int) string { return fmt.Sprintf("[%d/7, %d/7]", lo[i], lo[i]+wide[i]) }
		ahead := "vars x y|form f = " + f.text + "|box b = " + part(0) + "; " + part(1)
		said := strings.Split(strings.TrimSuffix(behind(t, ahead, "eval f b|mean f b|trace f b"), "\n"), "\n")
		value, middling, trace := setOf(t, said[0]), setOf(t, said[1]), said[2:]
		if !middling.within(value) {
			t.Errorf("%s: mean says %s", ahead, shown(said[1]))
		}
		for range 8 {
			point := []*big.Rat{rat(7*lo[0]+wide[0]*int64(d.below(8)), 49), rat(7*lo[1]+wide[1]*int64(d.below(8)), 49)}
			var lines []*big.Rat
			y := f.of(point, &lines)
			if y == nil {
				if value.rank != "trv" {
					t.Errorf("%s: %s, and at %v it is not defined", ahead, shown(said[0]), point)
				}
				continue
			}
			points++
			if value.rank != "trv" {
				sure++
			}
			if !value.holds(y) || !middling.holds(y) {
				t.Errorf("%s: %s; %s; at %v it is %v", ahead, shown(said[0]), shown(said[1]), point, y)
			}
			if len(f.text) == 1 {
				lines = append(lines, y) // of a variable alone a line is made
			}
			if len(lines) != len(trace) {
				t.Fatalf("%s: %d lines, not %d", ahead, len(trace), len(lines))
			}
			for i, x := range lines {
				if !setOf(t, trace[i]).holds(x) {
					t.Errorf("%s: the line %d, %s, is %v at %v", ahead, i, shown(trace[i]), x, point)
				}
			}
		}
	}
	if points < 6000 || sure < 3000 {
		t.Errorf("%d points, %d of them sure", points, sure)
	}
}

// numeral tells a text and its number.
func (d *dice) numeral() (string, *big.Rat) {
	n, m := int64(d.below(200001)-100000), int64(1+d.below(999))
	switch d.below(4) {
	case 0:
		return fmt.Sprintf("%d/%d", max(n, -n), m), rat(max(n, -n), m)
	case 1:
		text := fmt.Sprintf("%d.%de%d", n, m, d.below(640)-320)
		x, _ := new(big.Rat).SetString(text)
		return text, x
	case 2:
		return fmt.Sprintf("0x%x.8p%d", m, d.below(2200)-1100), nil
	}
	return fmt.Sprint(n), rat(n, 1)
}

// leastAbout tells whether an interval is the least one that holds a number.
func leastAbout(s set, x *big.Rat) bool {
	return s.holds(x) && isEnd(s.lo, x, math.Inf(1)) && isEnd(s.hi, x, math.Inf(-1))
}

// isEnd tells whether an end is a number of binary64, and no other one lies between it and x, nor on x.
func isEnd(end, x *big.Rat, toward float64) bool {
	if end == nil {
		most := new(big.Rat).SetFloat64(math.MaxFloat64)
		return new(big.Rat).Abs(x).Cmp(most) > 0
	}
	f, exact := end.Float64()
	if !exact || end.Cmp(x) == 0 {
		return exact
	}
	next := math.Nextafter(f, toward)
	if math.IsInf(next, 0) {
		return true
	}
	return new(big.Rat).SetFloat64(next).Cmp(x)*int(math.Copysign(1, toward)) > 0
}

// What a text says is held by the interval that is read of it, which is the least such one; what show says
// is read back as it was; what print says holds it.
func TestTextToText(t *testing.T) {
	d := dice(21072)
	for range 3000 {
		text, x := d.numeral()
		if x == nil {
			mantissa, power, _ := strings.Cut(strings.TrimPrefix(text, "0x"), ".8p")
			var n, p int64
			fmt.Sscanf(mantissa, "%x", &n)
			fmt.Sscan(power, &p)
			x = rat(2*n+1, 2)
			shift := new(big.Rat).SetInt(new(big.Int).Lsh(big.NewInt(1), uint(max(p, -p))))
			if p < 0 {
				shift.Inv(shift)
			}
			x.Mul(x, shift)
		}
		ahead := "let a = [" + text + "]"
		n := 1 + d.below(20)
		said := strings.Split(behind(t, ahead, fmt.Sprintf("show a|print %d a|box b = a|fold sum 1 b", n)), "\n")
		read, printed := setOf(t, said[0]), setOf(t, said[1])
		if !leastAbout(read, x) {
			t.Errorf("%s: %s", ahead, shown(said[0]))
		}
		if !read.within(printed) {
			t.Errorf("%s: %s, in %d digits %s", ahead, shown(said[0]), n, shown(said[1]))
		}
		if said[0] != said[3]+"_com" && said[0] != said[3]+"_dac" {
			t.Errorf("%s: %s, and in a box %s", ahead, shown(said[0]), shown(said[3]))
		}
		saysBehind(t, "let a = "+said[0], "show a|op id "+strings.ReplaceAll(said[0], " ", ""), said[0], said[0])
	}
}

// A box that is written anew from what show says is the same; so is a goal's interval.
func TestThingsWrittenAnew(t *testing.T) {
	for _, parts := range []string{"[0.1]; [nai]; []", "[,1]_trv;[1/3, 1e400]_def;3?1", "[,];-0?;[5e-324, 1]"} {
		first := behind(t, "box b = "+parts, "show b")
		anew := strings.ReplaceAll(strings.TrimSuffix(first, "\n"), "\n", ";")
		if got := behind(t, "box b = "+anew, "show b"); got != first {
			t.Errorf("%s: %s then %s", parts, shown(first), shown(got))
		}
	}
}

// A formula's bytes, and what show says of it, are read back to the same one.
func TestFormulasToText(t *testing.T) {
	d := dice(21073)
	for range 600 {
		g := &growing{&d, 4}
		text := strings.NewReplacer("x", "v0", "y", "v1").Replace(g.tree().text)
		ahead := "vars v0 v1|form f = " + text
		said := strings.Split(behind(t, ahead, "bytes f|show f"), "\n")
		bytes, formula := said[0], said[1]
		saysBehind(t, ahead, "load g "+bytes+"|bytes g|show g|form h = "+formula+"|bytes h|show h", counted(t, ahead), bytes, formula, counted(t, ahead), bytes, formula)
		box := "|box b = [-1/3, 2]; [1, 3]_def"
		once := behind(t, ahead+box, "eval f b|trace f b|slopes f b|mean f b|newton f b 1")
		if got := behind(t, ahead+"|load f "+bytes+box, "eval f b|trace f b|slopes f b|mean f b|newton f b 1"); got != once {
			t.Errorf("%s: %s; of its bytes %s", text, shown(once), shown(got))
		}
	}
}

// counted tells what is said of a formula when it is made, by the last line of a text.
func counted(t *testing.T, text string) string {
	t.Helper()
	all := strings.Split(strings.TrimSuffix(answer(t, lines(text)), "\n"), "\n")
	return all[len(all)-1]
}
