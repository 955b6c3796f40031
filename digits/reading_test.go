package digits_test

import (
	"math"
	"math/big"
	"strconv"
	"strings"
	"testing"

	"verge/api"
	"verge/digits"
)

// P5.1

// asExpected holds Read, in every direction, against what the chapter asks of a text.
func asExpected(t *testing.T, s string) {
	t.Helper()
	want := expect(s)
	for _, d := range directions {
		var w float64
		if want.e == api.OK {
			w = rounded(d, want.says)
		}
		if x, at, e := digits.Read(d, s); !same(x, w) || at != want.at || e != want.e {
			t.Errorf("Read(%d, %.90q) = %x, %d, %d; want %x, %d, %d", d, s, x, at, e, w, want.at, want.e)
		}
	}
}

// every goes through all texts of n bytes of an alphabet.
func every(n int, alphabet string, f func(string)) {
	if n == 0 {
		f("")
		return
	}
	every(n-1, alphabet, func(s string) {
		for i := range len(alphabet) {
			f(s + alphabet[i:i+1])
		}
	})
}

func TestReadShortTexts(t *testing.T) {
	for n := range 4 {
		every(n, "01.+-eExXpP/aF \xc3", func(s string) { asExpected(t, s) })
	}
	for n := 4; n < 7; n++ {
		every(n, "0.-e/", func(s string) { asExpected(t, s) })
	}
	every(3, "0.-pae", func(s string) { asExpected(t, "0x"+s) })
	every(4, "1.+p", func(s string) { asExpected(t, "-0X"+s) })
}

// Every byte at every place.
func TestReadAnyByte(t *testing.T) {
	for _, s := range []string{"", "-12.5e-3", "+0x1a.fP+12", "-7/13", ".5", "5."} {
		for at := range len(s) + 1 {
			for b := range 256 {
				c := string([]byte{byte(b)})
				asExpected(t, s[:at]+c+s[at:])
				if at < len(s) {
					asExpected(t, s[:at]+c+s[at+1:])
				}
			}
		}
	}
}

// What looks like a digit and is none: other scripts' digits, words, separators.
func TestReadOtherSigns(t *testing.T) {
	for _, s := range []string{"inf", "Inf", "+infinity", "NaN", "1_000", "1,5", "1'000", "٣", "１", "1٣", "½", "−1", "1e−1", "0x1P٣", "1/２", "1⁄2", "0b1", "0o7", "0x_1p0", "1e1.5", "1.e", "0x1.p", "\x001", "1\x00", "1\n", "\t1", "1/ 2", "1 /2", "0x1 p0", "++1", "+-1", "-+1", "1-", "1+1", "1e--1", "1e+-1", "1e1e1", "1p1", "0x1e1", "0x1e+1p0", "0xgp0", "0x1pa", "1/2/3", "1/2.", "1/.5", "1/0x1p0", "0x1/2", "0x1p0/2", "1.5/2", ".1/2", "1./2", "1e2/3", "/2", "-/2", "+.", "-.", "..", ".e1", "0x.", "0x.p0", "-0x", "00x1p0", "0xx1p0", "x1p0"} {
		asExpected(t, s)
	}
}

func TestReadAnyNumeral(t *testing.T) {
	d := dice(1)
	for range 4000 {
		s := d.numeral(pick(&d, 3, 20, 60))
		asExpected(t, s)
		asExpected(t, d.spoilt(s))
		asExpected(t, s[:d.below(len(s))])
	}
}

// The points and the signs: one number in many texts.
func TestReadOneNumberInManyTexts(t *testing.T) {
	for _, s := range []string{"12.5", "+12.5", "0012.5", "12.500", "125e-1", "125.e-1", ".125e2", ".125E+02", "1.25e1", "1250e-2", "0.00125e4", "25/2", "0025/002", "125/10", "0x19p-1", "0xc.8p0", "0XC.8P0", "0x.c8p4", "0xC80p-8", "0xc80.p-0008", "0x000c.800p+0"} {
		for _, d := range directions {
			read(t, d, s, 12.5)
			read(t, d, "-"+strings.TrimPrefix(s, "+"), -12.5)
		}
	}
	for _, s := range []string{"0", "-0", "+0", "0.", ".0", "-.0", "000.000", "0e0", "0e9999", "-0e-9999", "0x0p0", "-0x.0p-9999", "0X0.P+9999", "0/1", "-00/0012"} {
		for _, d := range directions {
			read(t, d, s, 0)
		}
	}
}

func TestReadExponents(t *testing.T) {
	for _, s := range []string{"1e9998", "1e9999", "1e+9999", "1e-9999", "1e-9998", "1e10000", "1e+10000", "1e-10000", "1e9999.", "1e00000000000000000000000000000009999", "1e-0000000000000000000000000000009999", "1e00010000", "1e-00010000", "1e+099999", "1e2147483648", "1e4294967296", "1e9223372036854775807", "1e9223372036854775808", "1e-9223372036854775809", "1e18446744073709551616", "1e18446744073709551617", "1e184467440737095516160000", "0e10000", "-0x1p9999", "0x1p-9999", "0x1p10000", "-0x1.8P-10000", "0x1p00010000", "0X0p-99999", "1e10000x", "1e10000e1", "1e10000/1", "1e10000.", "0x1p10000p", "0x1p99999999999999999999 ", "1e00000", "1e-0", "0x1p-00"} {
		asExpected(t, s)
	}
	for _, n := range []int{5, 100, 4000} {
		asExpected(t, "1e"+strings.Repeat("9", n))
		asExpected(t, "-.1e-"+strings.Repeat("0", n)+"1")
		asExpected(t, "0x1p+"+strings.Repeat("0", n)+"10000")
	}
}

// What the digits' places make good of the exponent, and what they do not.
func TestReadFarPoints(t *testing.T) {
	noughts := strings.Repeat("0", 4000)
	for _, d := range directions {
		read(t, d, "0."+noughts+"1e4001", 1)
		read(t, d, "1"+noughts+"e-4000", 1)
		read(t, d, "-0x."+noughts+"8p-1", rounded(d, new(big.Rat).Neg(power(2, -16002))))
		read(t, d, "0x4"+noughts+"p-9999", rounded(d, power(2, 6003)))
		read(t, d, "1"+noughts[:2000]+"/1"+noughts[:2000], 1)
	}
	read(t, api.Near, "0x."+strings.Repeat("0", 2400)+"1p9604", 1)
	read(t, api.Near, "-0x8"+strings.Repeat("0", 2400)+"p-9603", -1)
}

func TestReadRatios(t *testing.T) {
	for _, s := range []string{"1/3", "-1/3", "2/3", "10/5", "1/1", "0/1", "007/0070", "1/0", "0/0", "-1/0", "1/00000", "0001/00000x", "1/0e1", "1/0.", "9007199254740993/1", "9007199254740993/9007199254740992", "1/" + strings.Repeat("9", 400), strings.Repeat("9", 400) + "/1", strings.Repeat("9", 2000) + "/" + strings.Repeat("7", 2000), "1/" + strings.Repeat("0", 4000), "1/" + strings.Repeat("0", 4000) + "3"} {
		asExpected(t, s)
	}
}

func TestReadLongTexts(t *testing.T) {
	long := strings.Repeat("1234567890", 410)
	for _, n := range []int{1, 2, 15, 16, 17, 18, 19, 20, 31, 32, 33, 34, 48, 63, 64, 65, 100, 767, 800, 1100, 4095, 4096} {
		s := long[:n]
		asExpected(t, s)
		asExpected(t, "-"+s[1:])
		asExpected(t, "."+s[1:])
		asExpected(t, s[:n/2]+"."+s[n-n/2:])
		if n > 8 {
			asExpected(t, "0x"+s[8:]+"p-9999")
			asExpected(t, "0X."+s[8:]+"P9999")
			asExpected(t, s[:n/2]+"/"+s[n/2+1:])
			asExpected(t, s[8:]+"e-9999")
			asExpected(t, "."+s[8:]+"e9999")
			asExpected(t, s[1:]+"x")
		}
	}
	refused(t, long[:4097], 4096, api.ErrLong)
	refused(t, long, 4096, api.ErrLong)
	for _, s := range []string{"", "x", "1e99999", "1/0", "\xff", " "} {
		refused(t, s+strings.Repeat("\x80", 4097-len(s)), 4096, api.ErrLong)
		refused(t, s+strings.Repeat("0", 100000), 4096, api.ErrLong)
	}
	refused(t, strings.Repeat("x", 4096), 0, api.ErrDigits)
	refused(t, strings.Repeat("0", 4095)+"x", 4095, api.ErrDigits)
	refused(t, strings.Repeat("0", 4095)+"e", 4096, api.ErrDigits)
	refused(t, strings.Repeat("0", 4095)+"/", 4096, api.ErrDigits)
	for _, d := range directions {
		read(t, d, strings.Repeat("0", 4095)+".", 0)
		read(t, d, strings.Repeat("0", 4094)+".1", rounded(d, big.NewRat(1, 10)))
	}
}

// texts tells whole times 10^ten in each of the three kinds of numerals that has a text for it.
func texts(whole *big.Int, ten int) []string {
	out := []string{whole.String() + "e" + strconv.Itoa(ten)}
	r := form{whole, ten}.value()
	if s := r.String(); len(s) <= api.MaxText {
		out = append(out, s)
	}
	if n := r.Denom().BitLen() - 1; r.Denom().Cmp(new(big.Int).Lsh(big.NewInt(1), uint(n))) == 0 {
		hex := r.Num().Text(16)
		sign := ""
		if r.Sign() < 0 {
			sign, hex = "-", hex[1:]
		}
		out = append(out, sign+"0x"+hex+"p-"+strconv.Itoa(n))
	}
	return out
}

// beside asks for a number, or the middle of two, which are whole multiples of 10^ten, for a hair less
// and for a hair more.
func beside(t *testing.T, r *big.Rat) {
	t.Helper()
	const ten = -1140
	whole := new(big.Rat).Mul(r, power(10, -ten)).Num()
	for _, off := range []int64{-1, 0, 1} {
		for _, s := range texts(new(big.Int).Add(whole, big.NewInt(off)), ten) {
			asExpected(t, s)
		}
	}
}

// Numbers, what lies in the middle of two of them, and what lies a hair beside that.
func TestReadMiddles(t *testing.T) {
	d := dice(2)
	l := []float64{0, least, 2 * least, 0x1p-1022, math.Nextafter(0x1p-1022, 0), math.Nextafter(1, 0), 1, 0.1, 1.5, 0x1p53, 0x1p53 + 2, 1e22, 1e23, 0x1p1023, math.Nextafter(greatest, 0)}
	for range 40 {
		l = append(l, math.Abs(d.number()))
	}
	for _, x := range l {
		if x == greatest {
			continue
		}
		r := new(big.Rat).Add(real(x), real(math.Nextafter(x, inf)))
		r.Mul(r, big.NewRat(1, 2))
		for _, v := range []*big.Rat{r, new(big.Rat).Neg(r), real(x)} {
			beside(t, v)
		}
	}
}

// The greatest number, the middle behind it, and what would be the next number.
func TestReadBehindTheGreatest(t *testing.T) {
	middle := new(big.Rat).Add(real(greatest), power(2, 970))
	for _, r := range []*big.Rat{real(greatest), middle, power(2, 1024), power(2, 1025)} {
		beside(t, r)
		beside(t, new(big.Rat).Neg(r))
	}
	for _, s := range []string{"1e308", "1e309", "1e9999", "0x1p1023", "0x1p1024", "0x1.fffffffffffff7p1023", "0x1.fffffffffffff8p1023", "0x1.fffffffffffff7ffffffffffffffffffffp1023", "0x1p9999"} {
		asExpected(t, s)
		asExpected(t, "-"+s)
	}
	for _, s := range []string{"1e-323", "1e-324", "1e-400", "1e-9999", "0x1p-1074", "0x1p-1075", "0x1.00000000000000000000001p-1075", "0x.ffffffffffffffffffffp-1075", "0x1p-1076", "0x1p-9999"} {
		asExpected(t, s)
		asExpected(t, "-"+s)
	}
}

// The library's own reader goes to the nearest.
func TestReadAsTheLibrary(t *testing.T) {
	d := dice(3)
	for range 20000 {
		s := strconv.FormatFloat(d.number(), 'e', d.below(25), 64)
		want, _ := strconv.ParseFloat(s, 64)
		read(t, api.Near, s, want+0)
	}
}
