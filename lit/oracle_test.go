package lit_test

import (
	"math"
	"math/big"
	"regexp"
	"strings"

	"verge/api"
)

// What the tests measure by: what a literal means, by regular expressions and on math/big.

const (
	greatest = math.MaxFloat64
	least    = math.SmallestNonzeroFloat64
)

var (
	inf    = math.Inf(1)
	nan    = math.NaN()
	signed = math.Copysign(0, -1)
	empty  = api.Interval{Lo: inf, Hi: -inf}
	entire = api.Interval{Lo: -inf, Hi: inf}
	nai    = api.Deco{X: empty, D: api.Ill}
)

func iv(lo, hi float64) api.Interval { return api.Interval{Lo: lo, Hi: hi} }

func dv(lo, hi float64, d int) api.Deco { return api.Deco{X: iv(lo, hi), D: d} }

func above(x float64) float64 { return math.Nextafter(x, inf) }

func below(x float64) float64 { return math.Nextafter(x, -inf) }

func same(x, y api.Interval) bool {
	return math.Float64bits(x.Lo) == math.Float64bits(y.Lo) && math.Float64bits(x.Hi) == math.Float64bits(y.Hi)
}

// asRead: DOC.md, 'What is handed in'.
func asRead(x api.Interval) api.Interval {
	if math.IsNaN(x.Lo) || math.IsNaN(x.Hi) || x.Lo > x.Hi || x.Lo == inf || x.Hi == -inf {
		return empty
	}
	return iv(x.Lo+0, x.Hi+0)
}

func asReadDeco(x api.Deco) api.Deco {
	y := asRead(x.X)
	switch {
	case x.D != api.Trv && x.D != api.Def && x.D != api.Dac && x.D != api.Com, y == empty && x.X != empty:
		return nai
	case y == empty:
		return api.Deco{X: empty, D: api.Trv}
	case x.D == api.Com && (y.Lo == -inf || y.Hi == inf):
		return api.Deco{X: y, D: api.Dac}
	}
	return api.Deco{X: y, D: x.D}
}

// capitalsSmall: the bytes A to Z alone.
func capitalsSmall(s string) string {
	b := []byte(s)
	for i := range b {
		if b[i] >= 'A' && b[i] <= 'Z' {
			b[i] += 'a' - 'A'
		}
	}
	return string(b)
}

// The forms again, in small letters, with groups.
const (
	numeralText = `[+-]?(?:(?:[0-9]+\.?[0-9]*|\.[0-9]+)(?:e[+-]?[0-9]+)?|0x(?:[0-9a-f]+\.?[0-9a-f]*|\.[0-9a-f]+)p[+-]?[0-9]+|[0-9]+/[0-9]+)`
	blankText   = `[ \t\n\r]*`
)

var (
	onBlanks    = func(s string) *regexp.Regexp { return regexp.MustCompile(`\A\[` + blankText + s + blankText + `\]\z`) }
	emptyText   = onBlanks(`(?:empty)?`)
	entireText  = onBlanks(`entire`)
	naiText     = onBlanks(`nai`)
	oneText     = onBlanks(`(` + numeralText + `)`)
	twoText     = onBlanks(`(` + numeralText + `|-inf|-infinity|)` + blankText + `,` + blankText + `(` + numeralText + `|\+?inf|\+?infinity|)`)
	aboutText   = regexp.MustCompile(`\A([+-]?)([0-9]*)\.?([0-9]*)\?([0-9]*|\?)([ud]?)(?:e([+-]?)([0-9]+))?\z`)
	decimalText = regexp.MustCompile(`\A([+-]?)([0-9]*)\.?([0-9]*)(?:e([+-]?)([0-9]+))?\z`)
	hexText     = regexp.MustCompile(`\A([+-]?)0x([0-9a-f]*)\.?([0-9a-f]*)p([+-]?)([0-9]+)\z`)
	ratioText   = regexp.MustCompile(`\A([+-]?)([0-9]+)/([0-9]+)\z`)
)

func integer(s string, base int) *big.Int {
	v, ok := new(big.Int).SetString(s, base)
	if !ok {
		panic("no digits: " + s)
	}
	return v
}

// power tells base to the n.
func power(base, n int) *big.Rat {
	p := new(big.Int).Exp(big.NewInt(int64(base)), big.NewInt(int64(max(n, -n))), nil)
	if n < 0 {
		return new(big.Rat).SetFrac(big.NewInt(1), p)
	}
	return new(big.Rat).SetInt(p)
}

func turned(sign string, r *big.Rat) *big.Rat {
	if sign == "-" {
		return r.Neg(r)
	}
	return r
}

// reals is what a bare literal means: no bound is nil.
type reals struct {
	ill, void bool
	low, high *big.Rat
}

// fault is one of P12.1's third kind.
type fault struct {
	at int
	e  api.Errno
}

// whole tells an exponent, or the fault that it is too great.
func whole(sign, digits string, at int) (int, *fault) {
	if digits == "" {
		return 0, nil
	}
	v := integer(digits, 10)
	if v.Cmp(big.NewInt(9999)) > 0 {
		return 0, &fault{at, api.ErrExp}
	}
	if sign == "-" {
		v.Neg(v)
	}
	return int(v.Int64()), nil
}

// groups tells the groups of a match and where each begins; nil, if there is none.
func groups(form *regexp.Regexp, s string) (texts []string, from []int) {
	m := form.FindStringSubmatchIndex(s)
	for i := 2; i < len(m); i += 2 {
		text := ""
		if m[i] >= 0 {
			text = s[m[i]:m[i+1]]
		}
		texts, from = append(texts, text), append(from, m[i])
	}
	return texts, from
}

// says tells what a numeral that stands at a place says.
func says(s string, at int) (*big.Rat, *fault) {
	for _, kind := range []struct {
		form              *regexp.Regexp
		base, scale, each int
	}{{decimalText, 10, 10, 1}, {hexText, 16, 2, 4}} {
		g, from := groups(kind.form, s)
		if g == nil {
			continue
		}
		exp, f := whole(g[3], g[4], at+from[4])
		if f != nil {
			return nil, f
		}
		r := new(big.Rat).SetInt(integer(g[1]+g[2], kind.base))
		return turned(g[0], r.Mul(r, power(kind.scale, exp-kind.each*len(g[2])))), nil
	}
	g, from := groups(ratioText, s)
	den := integer(g[2], 10)
	if den.Sign() == 0 {
		return nil, &fault{at + from[2], api.ErrLit}
	}
	return turned(g[0], new(big.Rat).SetFrac(integer(g[1], 10), den)), nil
}

// means tells what a bare literal, or that of NaI, in small letters, means, or its fault.
func means(s string) (reals, *fault) {
	switch {
	case emptyText.MatchString(s):
		return reals{void: true}, nil
	case entireText.MatchString(s):
		return reals{}, nil
	case naiText.MatchString(s):
		return reals{ill: true}, nil
	}
	if g, from := groups(oneText, s); g != nil {
		r, f := says(g[0], from[0])
		return reals{low: r, high: r}, f
	}
	if g, from := groups(twoText, s); g != nil {
		return between(g, from)
	}
	return about(s)
}

func between(g []string, from []int) (reals, *fault) {
	var bounds [2]*big.Rat
	for i := range bounds {
		if g[i] == "" || strings.Contains(g[i], "inf") {
			continue
		}
		r, f := says(g[i], from[i])
		if f != nil {
			return reals{}, f
		}
		bounds[i] = r
	}
	if bounds[0] != nil && bounds[1] != nil && bounds[0].Cmp(bounds[1]) > 0 {
		return reals{}, &fault{from[1], api.ErrLit}
	}
	return reals{low: bounds[0], high: bounds[1]}, nil
}

// about goes by U, M and R, as the chapter does.
func about(s string) (reals, *fault) {
	g, from := groups(aboutText, s)
	exp, f := whole(g[5], g[6], from[6])
	if f != nil {
		return reals{}, f
	}
	u := power(10, exp-len(g[2]))
	m := new(big.Rat).SetInt(integer(g[1]+g[2], 10))
	m = turned(g[0], m.Mul(m, u))
	var low, high *big.Rat
	if g[3] != "?" {
		r := big.NewRat(1, 2)
		if g[3] != "" {
			r.SetInt(integer(g[3], 10))
		}
		r.Mul(r, u)
		low, high = new(big.Rat).Sub(m, r), new(big.Rat).Add(m, r)
	}
	switch g[4] {
	case "u":
		low = m
	case "d":
		high = m
	}
	return reals{low: low, high: high}, nil
}

func isAbove(x float64, r *big.Rat) bool {
	if math.IsInf(x, 0) {
		return x > 0
	}
	return new(big.Rat).SetFloat64(x).Cmp(r) > 0
}

func isBelow(x float64, r *big.Rat) bool { return isAbove(-x, new(big.Rat).Neg(r)) }

// interval is the least one that holds the reals.
func (s reals) interval() api.Interval {
	if s.void || s.ill {
		return empty
	}
	x := entire
	if s.low != nil {
		x.Lo, _ = s.low.Float64()
		if isAbove(x.Lo, s.low) {
			x.Lo = below(x.Lo)
		}
	}
	if s.high != nil {
		x.Hi, _ = s.high.Float64()
		if isBelow(x.Hi, s.high) {
			x.Hi = above(x.Hi)
		}
	}
	return iv(x.Lo+0, x.Hi+0)
}

// expected is what P12.1 to P12.3 ask of a text.
type expected struct {
	x  api.Deco
	at int
	e  api.Errno
}

func expect(s string, decorated bool) expected {
	if len(s) > 4096 {
		return expected{at: 4096, e: api.ErrLong}
	}
	f := bareForm
	if decorated {
		f = decoratedForm
	}
	if ok, far := f.whole(s); !ok {
		return expected{at: far, e: api.ErrLit}
	}
	body, rank, written := strings.Cut(capitalsSmall(s), "_")
	set, wrong := means(body)
	if wrong != nil {
		return expected{at: wrong.at, e: wrong.e}
	}
	x := api.Deco{X: set.interval()}
	bounded := !set.void && set.low != nil && set.high != nil
	switch {
	case set.ill:
		return expected{x: nai}
	case !written:
		x.D = api.Com
	case rank == "com" && !bounded, rank != "trv" && set.void:
		return expected{at: len(body), e: api.ErrLit}
	default:
		x.D = map[string]int{"com": api.Com, "dac": api.Dac, "def": api.Def, "trv": api.Trv}[rank]
	}
	return expected{x: asReadDeco(x)}
}
