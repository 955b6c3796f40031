package round_test

import (
	"math"
	"testing"

	"verge/api"
	"verge/round"
)

// The rows of the chapter's examples.

type row struct {
	name      string
	got, want float64
}

func checkRows(t *testing.T, rows []row) {
	t.Helper()
	for _, r := range rows {
		is(t, r.got, r.want, "%s", r.name)
	}
}

func TestExamples(t *testing.T) {
	bits := math.Float64frombits
	checkRows(t, []row{
		{"Add(Down, 1, t)", round.Add(api.Down, 1, least), 1},
		{"Add(Up, 1, t)", round.Add(api.Up, 1, least), 1 + e},
		{"Add(Near, 1, t)", round.Add(api.Near, 1, least), 1},
		{"Add(Down, 1, -t)", round.Add(api.Down, 1, -least), 1 - e/2},
		{"Add(Up, 1, -t)", round.Add(api.Up, 1, -least), 1},
		{"Add(Down, g, g)", round.Add(api.Down, greatest, greatest), greatest},
		{"Add(Up, g, g)", round.Add(api.Up, greatest, greatest), inf},
		{"Add(Near, g, g)", round.Add(api.Near, greatest, greatest), inf},
		{"Add(Up, -g, -g)", round.Add(api.Up, -greatest, -greatest), -greatest},
		{"Mul(Down, t, t)", round.Mul(api.Down, least, least), 0},
		{"Mul(Up, t, t)", round.Mul(api.Up, least, least), least},
		{"Mul(Up, t, -t)", round.Mul(api.Up, least, -least), 0},
		{"Mul(Near, t, 0.5)", round.Mul(api.Near, least, 0.5), 0},
		{"Div(Down, 1, 3)", round.Div(api.Down, 1, 3), bits(0x3fd5555555555555)},
		{"Div(Up, 1, 3)", round.Div(api.Up, 1, 3), bits(0x3fd5555555555556)},
		{"Sqrt(Down, 2)", round.Sqrt(api.Down, 2), bits(0x3ff6a09e667f3bcc)},
		{"Sqrt(Up, 2)", round.Sqrt(api.Up, 2), bits(0x3ff6a09e667f3bcd)},
		{"FMA(Down, 1 + e, 1 - e, -1)", round.FMA(api.Down, 1+e, 1-e, -1), -0x1p-104},
		{"FMA(Up, 1 + e, 1 - e, -1)", round.FMA(api.Up, 1+e, 1-e, -1), -0x1p-104},
		{"FMA(Down, g, 2, -g)", round.FMA(api.Down, greatest, 2, -greatest), greatest},
		{"FMA(Near, t, t, -t)", round.FMA(api.Near, least, least, -least), -least},
		{"FMA(Down, t, t, -t)", round.FMA(api.Down, least, least, -least), -least},
		{"Pow(Down, 3, 2)", round.Pow(api.Down, 3, 2), 9},
		{"Pow(Down, 1 + e, 1024)", round.Pow(api.Down, 1+e, 1024), 1 + 1024*e},
		{"Pow(Up, 10, 400)", round.Pow(api.Up, 10, 400), inf},
		{"Pow(Down, 10, 400)", round.Pow(api.Down, 10, 400), greatest},
		{"Root(Down, 27, 3)", round.Root(api.Down, 27, 3), 3},
		{"Of(Near, [1], -1075)", round.Of(api.Near, false, words(1), -1075), 0},
		{"Of(Up, [1], the least int)", round.Of(api.Up, false, words(1), minInt), least},
		{"Of(Down, [1], the greatest int)", round.Of(api.Down, false, words(1), maxInt), greatest},
		{"Ratio(Near, [1], [a], 0)", round.Ratio(api.Near, false, words(1), words(0xa), 0), bits(0x3fb999999999999a)},
	})
	if r := round.Root(api.Up, least, 1024); powerOver(realOf(r), 1024, least) < 0 || powerOver(realOf(r*(1-e/2)), 1024, least) >= 0 {
		t.Errorf("Root(Up, t, 1024) = %x", r)
	}
}

func TestExamplesInEveryDirection(t *testing.T) {
	for _, d := range directions {
		checkRows(t, []row{
			{"Add(d, 1, -1)", round.Add(d, 1, -1), 0},
			{"Add(d, -0, -0)", round.Add(d, minus, minus), 0},
			{"Add(d, +Inf, -Inf)", round.Add(d, inf, -inf), nan},
			{"Sub(d, +Inf, +Inf)", round.Sub(d, inf, inf), nan},
			{"Mul(d, 0, -Inf)", round.Mul(d, 0, -inf), nan},
			{"Div(d, 0, 0)", round.Div(d, 0, 0), nan},
			{"Div(d, 1, 0)", round.Div(d, 1, 0), inf},
			{"Div(d, 1, -0)", round.Div(d, 1, minus), inf},
			{"Div(d, -1, 0)", round.Div(d, -1, 0), -inf},
			{"Div(d, 5, -Inf)", round.Div(d, 5, -inf), 0},
			{"Sqrt(d, 4)", round.Sqrt(d, 4), 2},
			{"Sqrt(d, -t)", round.Sqrt(d, -least), nan},
			{"Sqrt(d, -0)", round.Sqrt(d, minus), 0},
			{"FMA(d, 0, +Inf, 1)", round.FMA(d, 0, inf, 1), nan},
			{"FMA(d, 2, +Inf, -Inf)", round.FMA(d, 2, inf, -inf), nan},
			{"Pow(d, 0, 0)", round.Pow(d, 0, 0), 1},
			{"Pow(d, 0, -3)", round.Pow(d, 0, -3), inf},
			{"Pow(d, -Inf, 3)", round.Pow(d, -inf, 3), -inf},
			{"Pow(d, -Inf, -3)", round.Pow(d, -inf, -3), 0},
			{"Pow(d, 2, 1025)", round.Pow(d, 2, 1025), nan},
			{"Root(d, -8, 3)", round.Root(d, -8, 3), -2},
			{"Root(d, -4, 2)", round.Root(d, -4, 2), nan},
			{"Of(d, true, [3], -1)", round.Of(d, true, words(3), -1), -1.5},
			{"Ratio(d, true, [1], nothing, 5)", round.Ratio(d, true, words(1), nil, 5), -inf},
			{"Ratio(d, false, nothing, nothing, 0)", round.Ratio(d, false, nil, nil, 0), nan},
		})
	}
}

func TestExamplesOfNarrow(t *testing.T) {
	for _, c := range []struct {
		name string
		got  float32
		want uint32
	}{
		{"Narrow(Down, 0.1)", round.Narrow(api.Down, 0.1), 0x3dcccccc},
		{"Narrow(Up, 0.1)", round.Narrow(api.Up, 0.1), 0x3dcccccd},
		{"Narrow(Up, g)", round.Narrow(api.Up, greatest), 0x7f800000},
		{"Narrow(Down, g)", round.Narrow(api.Down, greatest), 0x7f7fffff},
		{"Narrow(Up, t)", round.Narrow(api.Up, least), 1},
	} {
		if got := math.Float32bits(c.got); got != c.want {
			t.Errorf("%s = %08x, want %08x", c.name, got, c.want)
		}
	}
}
