package digits

import (
	"cmp"
	"slices"
	"strconv"
	"strings"

	"verge/nat"
	"verge/round"
)

// Numbers as naturals. Layer 2 refuses none of them: in a numeral of MaxText bytes with an exponent of
// MaxExp num has some 37000 bits and den some 33000, and where two are held against each other there
// are some 94000, of 524288 that are allowed.

// rational is the number num / den times 2^exp, or minus that; den is not 0.
type rational struct {
	neg      bool
	num, den []uint32
	exp      int
}

func (a rational) rounded(d int) float64 { return round.Ratio(d, a.neg, a.num, a.den, a.exp) }

// against tells -1, 0 or 1, as a is below, at or above b.
func (a rational) against(b rational) int {
	sign := a.sign()
	if sign != b.sign() {
		return cmp.Compare(sign, b.sign())
	}
	left, _ := nat.Mul(a.num, b.den)
	right, _ := nat.Mul(b.num, a.den)
	left, _ = nat.Shl(left, max(a.exp-b.exp, 0))
	right, _ = nat.Shl(right, max(b.exp-a.exp, 0))
	return sign * nat.Cmp(left, right)
}

func (a rational) sign() int {
	switch {
	case nat.Len(a.num) == 0:
		return 0
	case a.neg:
		return -1
	}
	return 1
}

// wordDigits digits of base 10 or 16 are a number of 64 bits.
const wordDigits = 16

// natural tells the whole number that digits are.
func natural(digits string, base int) []uint32 {
	if len(digits) <= wordDigits {
		v, _ := strconv.ParseUint(digits, base, 64)
		return nat.Small(v)
	}
	half := len(digits) / 2
	scale, _ := nat.Pow(nat.Small(uint64(base)), len(digits)-half)
	high, _ := nat.Mul(natural(digits[:half], base), scale)
	sum, _ := nat.Add(high, natural(digits[half:], base))
	return sum
}

const (
	blockDigits = 9
	block       = 1_000_000_000 // the greatest power of 10 that is a word of layer 2
)

// written tells the decimal digits of a natural above 0, the first not 0.
func written(a []uint32) string {
	var lowestFirst []byte
	for nat.Len(a) > 0 {
		high, low, _ := nat.Quo(a, nat.Small(block))
		v, _ := nat.Word(low)
		for range blockDigits {
			lowestFirst = append(lowestFirst, byte('0'+v%10))
			v /= 10
		}
		a = high
	}
	slices.Reverse(lowestFirst)
	return strings.TrimLeft(string(lowestFirst), "0")
}
