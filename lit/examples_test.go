package lit_test

import (
	"testing"

	"verge/api"
	"verge/lit"
)

// The rows of the chapter's examples.

func TestExamplesOfReading(t *testing.T) {
	for _, row := range []struct {
		s    string
		want api.Interval
	}{
		{"[1, 2]", iv(1, 2)}, {"[ 1 ,2 ]", iv(1, 2)}, {"[1.5]", iv(1.5, 1.5)}, {"[]", empty}, {"[ EMPTY ]", empty}, {"[Entire]", entire}, {"[,]", entire}, {"[1,]", iv(1, inf)}, {"[,-2]", iv(-inf, -2)},
		{"[0.1]", iv(0x1.9999999999999p-4, 0x1.999999999999ap-4)}, {"[1/3, 0x1p1]", iv(0x1.5555555555555p-2, 2)}, {"[-inf, +Infinity]", entire}, {"[1e400]", iv(greatest, inf)}, {"[-1e400, 1e-400]", iv(-inf, least)},
		{"3.5?1", iv(0x1.b333333333333p1, 0x1.ccccccccccccdp1)}, {"3.5?", iv(0x1.b999999999999p1, 0x1.c666666666667p1)}, {"3.5?u", iv(3.5, 0x1.c666666666667p1)},
		{"-10?2", iv(-12, -8)}, {"3.5?1e1", iv(34, 36)}, {"3.5??", entire}, {"3.5??u", iv(3.5, inf)}, {".5?5D", iv(0, 0.5)}, {"10?0", iv(10, 10)},
	} {
		reads(t, row.s, row.want)
	}
}

func TestExamplesOfRefusals(t *testing.T) {
	for _, row := range []struct {
		s  string
		at int
		e  api.Errno
	}{
		{"", 0, api.ErrLit}, {"[", 1, api.ErrLit}, {"[1", 2, api.ErrLit}, {"[1;2]", 2, api.ErrLit}, {"[inf, 1]", 1, api.ErrLit}, {"[1, -inf]", 5, api.ErrLit}, {"[em", 3, api.ErrLit}, {"[emptyx]", 6, api.ErrLit}, {"1", 1, api.ErrLit}, {"3?x", 2, api.ErrLit}, {"[1]x", 3, api.ErrLit}, {"[nai]", 1, api.ErrLit},
		{"[2, 1]", 4, api.ErrLit}, {"[1.00000000000000000001, 1]", 25, api.ErrLit}, {"[1/0]", 3, api.ErrLit}, {"[1, 1e10000]", 6, api.ErrExp}, {"[1e10000, 1/0]", 3, api.ErrExp}, {"[1]_com", 3, api.ErrLit},
	} {
		refused(t, row.s, row.at, row.e)
	}
	for _, row := range []struct {
		s  string
		at int
	}{{"[1, inf]_com", 8}, {"[]_dac", 2}, {"[1]_ill", 4}, {"[nai]_trv", 5}, {"[1]_co", 6}, {"[1] _com", 3}} {
		refusedDeco(t, row.s, row.at, api.ErrLit)
	}
}

func TestExamplesOfDecorated(t *testing.T) {
	for _, row := range []struct {
		s    string
		want api.Deco
	}{
		{"[1, 2]", dv(1, 2, api.Com)}, {"[1, 2]_dac", dv(1, 2, api.Dac)}, {"[1, 1e400]", dv(1, inf, api.Dac)}, {"[1, 1e400]_com", dv(1, inf, api.Dac)},
		{"[]", api.Deco{X: empty, D: api.Trv}}, {"[]_trv", api.Deco{X: empty, D: api.Trv}}, {"[1,]", dv(1, inf, api.Dac)}, {"[nai]", nai}, {"3?_def", dv(2.5, 3.5, api.Def)},
	} {
		readsDeco(t, row.s, row.want)
	}
}

func TestExamplesOfPrinting(t *testing.T) {
	for _, row := range []struct {
		x    api.Interval
		n    int
		want string
		e    api.Errno
	}{{iv(0.1, 0.1), 2, "[1.0e-1, 1.1e-1]", api.OK}, {iv(1, 2), 1, "[1e0, 2e0]", api.OK}, {iv(1, inf), 3, "[1.00e0, inf]", api.OK}, {empty, 1, "[empty]", api.OK}, {entire, 0, "", api.ErrArg}} {
		if s, e := lit.Print(row.x, row.n); s != row.want || e != row.e {
			t.Errorf("Print(%v, %d) = %q, %d; want %q", row.x, row.n, s, e, row.want)
		}
	}
	for _, row := range []struct {
		x    api.Interval
		want string
	}{{iv(1.5, 1.5), "[1.5e0]"}, {iv(-2, 0), "[-2e0, 0e0]"}, {iv(2, 1), "[empty]"}, {iv(-inf, 0.5), "[-inf, 5e-1]"}} {
		if s := lit.Exact(row.x); s != row.want {
			t.Errorf("Exact(%v) = %q; want %q", row.x, s, row.want)
		}
	}
	for _, row := range []struct {
		x    api.Deco
		want string
	}{{dv(1, 2, api.Com), "[1e0, 2e0]_com"}, {nai, "[nai]"}, {api.Deco{X: empty, D: api.Trv}, "[empty]_trv"}} {
		if s := lit.ExactDeco(row.x); s != row.want {
			t.Errorf("ExactDeco(%v) = %q; want %q", row.x, s, row.want)
		}
	}
	if s, e := lit.PrintDeco(dv(1, 2, api.Def), 2); s != "[1.0e0, 2.0e0]_def" || e != api.OK {
		t.Errorf("PrintDeco = %q, %d", s, e)
	}
}
