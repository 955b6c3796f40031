package digits

import (
	"math/bits"
	"strconv"
	"strings"

	"verge/fbit"
)

// significantBits of binary64, the first ahead of the point: what is behind it is whole hex digits.
const significantBits = 53

// hexText tells a number as P5.5 says. It is false of what is no number.
func hexText(x float64) (text string, ok bool) {
	neg, sig, exp, ok := fbit.Split(x)
	if !ok || sig == 0 {
		return "0x0p0", ok
	}
	length := bits.Len64(sig)
	digits := strings.TrimRight(strconv.FormatUint(sig<<(significantBits-length), 16), "0")
	return signed(neg, "0x"+withPoint(digits)+"p"+strconv.Itoa(exp+length-1)), true
}
