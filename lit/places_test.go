package lit_test

import (
	"strings"
	"testing"

	"verge/api"
)

// P12.1

func TestShortTexts(t *testing.T) {
	for n := range 4 {
		every(n, "[]01.,-+eExXp/?uD _iNa\xc3", func(s string) { asExpected(t, s) })
	}
	for n := range 6 {
		every(n, "1.?-e", func(s string) { asExpected(t, s) })
	}
	for n := range 5 {
		every(n, "[ 1,-]", func(s string) { asExpected(t, s) })
		every(n, "1?eud_t+", func(s string) { asExpected(t, "3?"+s) })
		every(n, "1 ,]./", func(s string) { asExpected(t, "[-0"+s) })
		every(n, "0 .p,-]", func(s string) { asExpected(t, "[0X"+s+"]") })
		every(n, "codaeM", func(s string) { asExpected(t, "[1]_"+s) })
	}
	every(3, "comdaceftrvT _", func(s string) { asExpected(t, ".5?_"+s) })
}

// literals of all kinds.
func literals() []string {
	return []string{"[]", "[ \t]", "[empty]", "[ Empty ]", "[entire]", "[\nENTIRE\r]", "[nai]", "[ NaI ]", "[1]", "[ -1.5e+3 ]", "[0x1.8P-1]", "[-1/3]", "[,]", "[ , ]", "[1,]", "[,2]", "[1 , 2]",
		"[-inf,inf]", "[-infinity, +infinity]", "[-INF, +Inf]", "[ ,Infinity ]", "[-iNFINITY,.5]", "[+.5e0,0X.8p1]", "[-1/2,1/2]",
		"3?", "-3.5?", "+.5?", "5.?", "3??", "3?12", "3?u", "3?D", "3??U", "3.25?5d", "3?e5", "3?E-05", "3??ue+1", "3.5?12De0",
		"[1, 2]_com", "[1,]_DAC", "[entire]_Def", "[]_trv", "3?_com", "3??d_dac", "3?1e1_trv"}
}

// Every byte at every place, and every beginning.
func TestAnyByte(t *testing.T) {
	for _, s := range literals() {
		for at := range len(s) + 1 {
			asExpected(t, s[:at])
			for b := range 256 {
				c := string([]byte{byte(b)})
				asExpected(t, s[:at]+c+s[at:])
				if at < len(s) {
					asExpected(t, s[:at]+c+s[at+1:])
				}
			}
		}
	}
}

// A literal, or what is left of it, behind a beginning of another one.
func TestPieces(t *testing.T) {
	d := dice(12001)
	l := literals()
	for range 40000 {
		a, b := pick(&d, l...), pick(&d, l...)
		asExpected(t, a[:d.below(len(a)+1)]+b[d.below(len(b)+1):])
	}
}

func TestAnyLiteral(t *testing.T) {
	d := dice(12002)
	for range 12000 {
		s := d.decorated(pick(&d, 1, 4, 20))
		asExpected(t, s)
		asExpected(t, d.letters(s))
		asExpected(t, d.spoilt(s))
		asExpected(t, d.spoilt(d.spoilt(s)))
		asExpected(t, s[:d.below(len(s)+1)])
	}
}

// Places that are told by hand, of words, numerals and infinities that begin alike.
func TestPlacesOfBeginnings(t *testing.T) {
	for _, row := range []struct {
		s        string
		at, deco int
	}{
		{"[e]", 2, 2}, {"[e5]", 2, 2}, {"[em]", 3, 3}, {"[en]", 3, 3}, {"[entirety]", 7, 7}, {"[ent]", 4, 4}, {"[emptyempty]", 6, 6}, {"[empty empty]", 7, 7}, {"[empty,]", 6, 6}, {"[entire,1]", 7, 7}, {"[empty", 6, 6}, {"[empty ", 7, 7}, {"[,empty]", 2, 2}, {"[,entire]", 2, 2},
		{"[i]", 1, 1}, {"[inf]", 1, 1}, {"[+inf,1]", 2, 2}, {"[-i]", 3, 3}, {"[-in,1]", 4, 4}, {"[-inf]", 5, 5}, {"[-inf ]", 6, 6}, {"[-infi,1]", 6, 6}, {"[-infinit,1]", 9, 9}, {"[-infinity]", 10, 10}, {"[-infinityy,1]", 10, 10}, {"[-infx,1]", 5, 5}, {"[-inf", 5, 5}, {"[-inf1,2]", 5, 5}, {"[-1inf,2]", 3, 3},
		{"[1,i]", 4, 4}, {"[1,in", 5, 5}, {"[1,inf", 6, 6}, {"[1,infi]", 7, 7}, {"[1,infinit]", 10, 10}, {"[1,infinityx]", 11, 11}, {"[1,infx]", 6, 6}, {"[1,+i]", 5, 5}, {"[1,+in]", 6, 6}, {"[1,+infi]", 8, 8}, {"[1,-inf]", 4, 4}, {"[1,-infinity]", 4, 4}, {"[1,+-inf]", 4, 4}, {"[1,++inf]", 4, 4}, {"[1,inf inf]", 7, 7}, {"[1,inf,]", 6, 6}, {"[1,inf1]", 6, 6}, {"[1,0inf]", 4, 4},
		{"[n", 1, 2}, {"[na]", 1, 3}, {"[nai", 1, 4}, {"[naix]", 1, 4}, {"[nai ", 1, 5}, {"[nai,]", 1, 4}, {"[nai, 1]", 1, 4}, {"[,nai]", 2, 2}, {"[nan]", 1, 3}, {"[nai]_com", 1, 5}, {"[nai] ", 1, 5}, {"[ni]", 1, 2}, {" [nai]", 0, 0}, {"nai", 0, 0}, {"NaI", 0, 0},
		{"[1", 2, 2}, {"[1 ", 3, 3}, {"[1 1]", 3, 3}, {"[1 ,", 4, 4}, {"[1,2", 4, 4}, {"[1,2 ", 5, 5}, {"[1,2,", 4, 4}, {"[1,,", 3, 3}, {"[,,]", 2, 2}, {"[1]]", 3, 3}, {"[[1]]", 1, 1}, {"[1[", 2, 2}, {"]", 0, 0}, {"[1,2)", 4, 4}, {"(1,2]", 0, 0}, {"[]]", 2, 2}, {"[][", 2, 2}, {"[1]2?", 3, 3},
		{"[1e]", 3, 3}, {"[1e+]", 4, 4}, {"[1e5.]", 4, 4}, {"[1.5.]", 4, 4}, {"[.]", 2, 2}, {"[+]", 2, 2}, {"[-]", 2, 2}, {"[--1]", 2, 2}, {"[+ 1]", 2, 2}, {"[1. 5]", 4, 4}, {"[1e 5]", 3, 3}, {"[0x]", 3, 3}, {"[0x1]", 4, 4}, {"[0x1 p1]", 4, 4}, {"[0x1p]", 5, 5}, {"[0x.p1]", 4, 4}, {"[00x1p1]", 3, 3}, {"[1x1p1]", 2, 2}, {"[0x1p1.5]", 6, 6}, {"[0xge]", 3, 3}, {"[1/]", 3, 3}, {"[1/ 2]", 3, 3}, {"[1 /2]", 3, 3}, {"[1/-2]", 3, 3}, {"[1/2/3]", 4, 4}, {"[1.5/2]", 4, 4}, {"[/2]", 1, 1}, {"[1?]", 2, 2}, {"[1_", 2, 2}, {"[1\x00]", 2, 2}, {"[\xff]", 1, 1}, {"[1\xc3\xa9]", 2, 2}, {"[٣]", 1, 1}, {"[1,٣]", 3, 3}, {"[1,\u00a02]", 3, 3}, {"[−1]", 1, 1}, {"[\v1]", 1, 1}, {"[\f]", 1, 1}, {"[\x00]", 1, 1}, {"[1\x85]", 2, 2}, {"[ınf]", 1, 1}, {"[1, İnf]", 4, 4}, {"[1, ınf]", 4, 4}, {"[ᴇmpty]", 1, 1}, {"[e\u0301mpty]", 2, 2},
		{"-", 1, 1}, {"+", 1, 1}, {".", 1, 1}, {"-.", 2, 2}, {".?", 1, 1}, {"?", 0, 0}, {"-?", 1, 1}, {"--3?", 1, 1}, {"3", 1, 1}, {"3.", 2, 2}, {"3.5.?", 3, 3}, {"3 ?", 1, 1}, {" 3?", 0, 0}, {"3? ", 2, 2}, {"3???", 3, 3}, {"3??5", 3, 3}, {"3?5?", 3, 3}, {"3?-5", 2, 2}, {"3?.5", 2, 2}, {"3?5.", 3, 3}, {"3?uu", 3, 3}, {"3?ud", 3, 3}, {"3?du", 3, 3}, {"3?u5", 3, 3}, {"3?u?", 3, 3}, {"3?e", 3, 3}, {"3?e+", 4, 4}, {"3?e+-1", 4, 4}, {"3?e5u", 4, 4}, {"3?e5.", 4, 4}, {"3?e5e5", 4, 4}, {"3?p5", 2, 2}, {"3e5?", 1, 1}, {"0x1?", 1, 1}, {"1/2?", 1, 1}, {"inf?", 0, 0}, {"3?def", 4, 4}, {"3?x", 2, 2}, {"3?5x", 3, 3}, {"3?é", 2, 2},
		{"[1]_", 3, 4}, {"[1]_c", 3, 5}, {"[1]_cOx", 3, 6}, {"[1]_comm", 3, 7}, {"[1]_com_com", 3, 7}, {"[1]_ com", 3, 4}, {"[1]_com ", 3, 7}, {"[1]__com", 3, 4}, {"[1]_d", 3, 5}, {"[1]_da", 3, 6}, {"[1]_de", 3, 6}, {"[1]_dx", 3, 5}, {"[1]_daf", 3, 6}, {"[1]_dec", 3, 6}, {"[1]_t", 3, 5}, {"[1]_trx", 3, 6}, {"[1]_ill", 3, 4}, {"[1]_nai", 3, 4}, {"[1]_4", 3, 4}, {"[1]\n_com", 3, 3}, {"[1]-com", 3, 3}, {"3?_", 2, 3}, {"3?_co", 2, 5}, {"3?e_com", 3, 3}, {"3_com", 1, 1}, {"_com", 0, 0}, {"3?d_d", 3, 5}, {"3?u_\xff", 3, 4},
	} {
		refused(t, row.s, row.at, api.ErrLit)
		refusedDeco(t, row.s, row.deco, api.ErrLit)
		asExpected(t, row.s)
	}
}

func TestLongTexts(t *testing.T) {
	for _, n := range []int{4095, 4096} {
		gap := strings.Repeat(" ", n)
		noughts := strings.Repeat("0", n)
		reads(t, "["+gap[2:]+"]", empty)
		reads(t, "["+gap[3:]+"1]", iv(1, 1))
		reads(t, "[1"+gap[4:]+",]", iv(1, inf))
		reads(t, "[,"+gap[4:]+"1]", iv(-inf, 1))
		reads(t, "["+noughts[3:]+"5]", iv(5, 5))
		reads(t, noughts[2:]+"5?", iv(4.5, 5.5))
		reads(t, "5?"+noughts[3:]+"2", iv(3, 7))
		reads(t, "5?e"+noughts[4:]+"1", iv(45, 55))
		readsDeco(t, "["+gap[7:]+"1]_com", dv(1, 1, api.Com))
		refused(t, "["+gap[1:], n, api.ErrLit)
		refused(t, noughts, n, api.ErrLit)
		refused(t, gap, 0, api.ErrLit)
		refused(t, "["+gap[2:]+"x", n-1, api.ErrLit)
		refusedDeco(t, noughts[1:]+"\xff", n-1, api.ErrLit)
	}
	for _, n := range []int{4097, 4098, 5000, 1 << 17} {
		for _, s := range []string{"", "x", "[", "[1e99999]", "[2,1]", "3?", "[1]_com", "\xff"} {
			for _, tail := range []string{" ", "0", "]", "\x80", "_com", "\u00e9"} {
				long := s + strings.Repeat(tail, n)[:n-len(s)]
				refused(t, long, 4096, api.ErrLong)
				refusedDeco(t, long, 4096, api.ErrLong)
			}
		}
		refused(t, "["+strings.Repeat(" ", n-2)+"]", 4096, api.ErrLong)
		refused(t, strings.Repeat("0", n-1)+"?", 4096, api.ErrLong)
	}
}

func TestExponents(t *testing.T) {
	for _, exp := range []string{"9998", "9999", "10000", "09999", "00000000000000000000009999", "00010000", "99999", "32768", "65536", "2147483648", "4294967296", "9223372036854775807", "9223372036854775808", "18446744073709551616", "18446744073709551617", "99999999999999999999999999", "0", "000"} {
		for _, sign := range []string{"", "+", "-"} {
			e, p := "e"+sign+exp, "p"+sign+exp
			each(t, "[1"+e+"]", "[-.5"+strings.ToUpper(e)+"]", "[0"+e+"]", "[0x1"+p+"]", "[0X0"+p+"]", "[1"+e+",]", "[,1"+e+"]", "[-1"+e+",1"+e+"]", "[-inf, 0x1"+p+" ]",
				"1?"+e, "-1.5?u"+e, "0?0"+e, ".0?"+e, "1?2d"+e, "1??u"+e, "1??"+e, "[1"+e+"]_com", "1?"+e+"_com", "1??"+e+"_com", "1?"+e+"x", "[1"+e+"x]", "[1"+e+";", "1?"+e+"_x")
		}
	}
	for _, n := range []int{5, 100, 4000} {
		each(t, "[1e"+strings.Repeat("9", n)+"]", "1?e-"+strings.Repeat("0", n)+"1", "1?e+"+strings.Repeat("0", n)+"10000", "[,1e"+strings.Repeat("0", n)+"9999]")
	}
	refused(t, "3?e10000", 3, api.ErrExp)
	refused(t, "3.25?5De-00010000", 9, api.ErrExp)
	refused(t, "[ 1e+10000 ]", 5, api.ErrExp)
	refused(t, "[-0x1.8p-10000,]", 9, api.ErrExp)
	refused(t, "[,1E10000]", 4, api.ErrExp)
	refusedDeco(t, "3?e10000_com", 3, api.ErrExp)
	reads(t, "1?0e-9999", iv(0, least))
	reads(t, "-1?0e0009999", iv(-inf, -greatest))
}

// Which of two faults is told.
func TestTwoFaults(t *testing.T) {
	for _, row := range []struct {
		s  string
		at int
		e  api.Errno
	}{
		{"[1/0]", 3, api.ErrLit}, {"[ -1/000 ]", 5, api.ErrLit}, {"[0/0]", 3, api.ErrLit}, {"[1/0,]", 3, api.ErrLit}, {"[,1/0]", 4, api.ErrLit}, {"[-inf,+1/00]", 9, api.ErrLit}, {"[1/0x]", 4, api.ErrLit}, {"[1/0.]", 4, api.ErrLit}, {"[1/0e1]", 4, api.ErrLit},
		{"[1/0, 2/0]", 3, api.ErrLit}, {"[1/0, 1e10000]", 3, api.ErrLit}, {"[1e10000, 1/0]", 3, api.ErrExp}, {"[1e10000, 0x1p10000]", 3, api.ErrExp}, {"[1, 0x1p10000]", 8, api.ErrExp}, {"[2e0, 1/0]", 8, api.ErrLit}, {"[5, 1e-10000]", 7, api.ErrExp}, {"[1/0, 1]", 3, api.ErrLit}, {"[1/0, -1]", 3, api.ErrLit},
		{"[1/0, x]", 6, api.ErrLit}, {"[1/0", 4, api.ErrLit}, {"[1e10000", 8, api.ErrLit}, {"[1e10000;1]", 8, api.ErrLit}, {"[1/0, 1/", 8, api.ErrLit}, {"[1/0]x", 5, api.ErrLit}, {"[2, 1", 5, api.ErrLit}, {"[2, 1]x", 6, api.ErrLit}, {"[2, 1] ", 6, api.ErrLit}, {"[2, 1/0]", 6, api.ErrLit}, {"3?e10000x", 8, api.ErrLit},
	} {
		refused(t, row.s, row.at, row.e)
		refusedDeco(t, row.s, row.at, row.e)
		asExpected(t, row.s)
	}
	for _, row := range []struct {
		s  string
		at int
		e  api.Errno
	}{
		{"[1/0]_com", 3, api.ErrLit}, {"[1/0,]_com", 3, api.ErrLit}, {"[1e10000,]_com", 3, api.ErrExp}, {"[2, 1]_com", 4, api.ErrLit}, {"[2, 1]_co", 9, api.ErrLit}, {"[2, 1]_comx", 10, api.ErrLit}, {"[1/0]_x", 6, api.ErrLit}, {"[,1/0]_com", 4, api.ErrLit}, {"3??e10000_com", 4, api.ErrExp}, {"3??_comx", 7, api.ErrLit}, {"[]_dax", 5, api.ErrLit},
	} {
		refusedDeco(t, row.s, row.at, row.e)
		asExpected(t, row.s)
	}
}

// Bounds the wrong way round, as they are written: that differ by less than two neighbouring numbers do,
// that are rounded to the same one, that are no numbers.
func TestOrderOfBounds(t *testing.T) {
	near := [][2]string{
		{"1", "1.00000000000000000001"}, {"0.1", "0.10000000000000000001"}, {"-0.10000000000000000001", "-1/10"}, {"0.3333333333333333333333", "1/3"}, {"1/3", "0.33333333333333333333334"}, {"0x1.00000000000000000001p0", "0x1.00000000000000000002p0"},
		{"1e400", "1e401"}, {"1e9998", "1e9999"}, {"-1e401", "-1e400"}, {"1e-401", "1e-400"}, {"0", "1e-9999"}, {"-1e-9999", "0"}, {"-1e-400", "-0"}, {"-1", "1"}, {"2", "10"}, {"-10", "-2"}, {"9e1", "100"}, {"0x1p-1075", "0x1p-1074"}, {"0x1p-9999", "1e-3009"},
		{"1." + strings.Repeat("0", 1000), "1." + strings.Repeat("0", 1000) + "1"}, {"1." + strings.Repeat("9", 1900), "2"},
	}
	for _, c := range near {
		each(t, "["+c[0]+","+c[1]+"]", "["+c[1]+", "+c[0]+"]", "["+c[0]+"]", "["+c[0]+","+c[0]+"]", "[ "+c[1]+" ,"+c[0]+" ]_com", "["+c[1]+"\t,\t"+c[0]+"]_trv")
		refused(t, "["+c[1]+" , "+c[0]+"]", 4+len(c[1]), api.ErrLit)
	}
	for _, same := range [][2]string{{"0.1", "1/10"}, {"-0", "0"}, {"0", "-0"}, {"0.5", "0x1p-1"}, {"0e5", "0/7"}, {"1e3", "1000.0"}, {"-0x.8p1", "-1/1"}, {"1e400", "10e399"}} {
		each(t, "["+same[0]+","+same[1]+"]", "["+same[1]+","+same[0]+"]")
	}
	reads(t, "[0,-0]", iv(0, 0))
	reads(t, "[1,1.00000000000000000001]", iv(1, above(1)))
	reads(t, "[1.00000000000000000001,1.00000000000000000002]", iv(1, above(1)))
}

// Each decoration on each kind of set.
func TestWhichDecorations(t *testing.T) {
	for _, body := range []string{"[]", "[empty]", "[entire]", "[,]", "[-inf, inf]", "[1,]", "[1, infinity]", "[,1]", "[-inf,1]", "[1]", "[1,2]", "[1e400]", "[-1e400]", "[-1e9999,1e9999]", "[1,1e400]", "[-1e400,1]", "[0x1p1024,]", "[1e-400]", "3?", "3??", "3??u", "3??d", "3?u", "3?d", "3?1", "3?e9999", "3?ue9999", "-3?0e9999", "3??ue9999", "3?e-9999", "[nai]"} {
		for _, rank := range []string{"com", "dac", "def", "trv", "COM", "Dac", "dEf", "trV", "ill", ""} {
			asExpected(t, body+"_"+rank)
		}
		asExpected(t, body)
	}
	for _, row := range []struct {
		s  string
		at int
	}{{"[entire]_com", 8}, {"[,]_com", 3}, {"[1,]_com", 4}, {"[-inf,1]_com", 8}, {"[]_com", 2}, {"[ ]_def", 3}, {"[empty]_dac", 7}, {"3??_com", 3}, {"3??u_com", 4}, {"3??de9999_com", 9}} {
		refusedDeco(t, row.s, row.at, api.ErrLit)
	}
	readsDeco(t, "[entire]_dac", api.Deco{X: entire, D: api.Dac})
	readsDeco(t, "[1,]_def", dv(1, inf, api.Def))
	readsDeco(t, "3?e9999_com", dv(greatest, inf, api.Dac))
	readsDeco(t, "3?e9999_def", dv(greatest, inf, api.Def))
	readsDeco(t, "[-1e400]_trv", dv(-inf, -greatest, api.Trv))
}
