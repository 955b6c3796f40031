package sheet

import (
	"strconv"
	"strings"

	"verge/api"
	"verge/fold"
	"verge/infix"
)

// longestNumber: in digits.
const longestNumber = 9

const hexDigits = "0123456789abcdef"

// operation is one that a word stands for, with so many arguments.
type operation struct {
	word string
	op   int
	args int
}

// The power is none of these: it has a command of its own.
var operations = [...]operation{
	{"neg", api.OpNeg, 1}, {"add", api.OpAdd, 2}, {"sub", api.OpSub, 2}, {"mul", api.OpMul, 2}, {"div", api.OpDiv, 2},
	{"id", api.OpId, 1}, {"sqr", api.OpSqr, 1}, {"sqrt", api.OpSqrt, 1}, {"recip", api.OpRecip, 1}, {"fma", api.OpFMA, 3},
	{"abs", api.OpAbs, 1}, {"min", api.OpMin, 2}, {"max", api.OpMax, 2}, {"sign", api.OpSign, 1}, {"floor", api.OpFloor, 1},
	{"ceil", api.OpCeil, 1}, {"trunc", api.OpTrunc, 1}, {"even", api.OpRoundEven, 1}, {"away", api.OpRoundAway, 1},
}

func operationOf(word string) (operation, bool) {
	for _, o := range operations {
		if o.word == word {
			return o, true
		}
	}
	return operation{}, false
}

// folding is a sum over a list, by so many workers.
type folding func(l []api.Interval, workers int) (api.Interval, api.Errno)

func foldings() map[string]folding {
	return map[string]folding{
		"sum":     fold.Sum,
		"abs":     fold.Abs,
		"squares": fold.Squares,
		"mean":    fold.Mean,
		"norm2":   fold.Norm2,
	}
}

func isName(word string) bool { return mayBe([]string{word}) }

// mayBe tells whether names may be those of variables: over others no formula is read.
func mayBe(names []string) bool {
	_, _, e := infix.Parse("0", names)
	return e == api.OK
}

// numberOf tells the number that a word is, if it is written just as that number is told.
func numberOf(word string) (n int, ok bool) {
	if len(word) > longestNumber {
		return 0, false
	}
	n, err := strconv.Atoi(word)
	return n, err == nil && n >= 0 && strconv.Itoa(n) == word
}

// bytesOf tells the bytes that are written as pairs of digits.
func bytesOf(pairs string) ([]byte, bool) {
	if pairs == "" || len(pairs)%2 != 0 {
		return nil, false
	}
	var out []byte
	for at := 0; at < len(pairs); at += 2 {
		high, low := strings.IndexByte(hexDigits, pairs[at]), strings.IndexByte(hexDigits, pairs[at+1])
		if high < 0 || low < 0 {
			return nil, false
		}
		out = append(out, byte(high<<4|low))
	}
	return out, true
}

func pairsOf(b []byte) string {
	var out strings.Builder
	for _, x := range b {
		out.WriteByte(hexDigits[x>>4])
		out.WriteByte(hexDigits[x&15])
	}
	return out.String()
}
