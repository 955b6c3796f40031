package deco_test

import (
	"testing"

	"verge/api"
	"verge/deco"
)

// The rows of the chapter's examples.

func TestExamplesOfMade(t *testing.T) {
	for _, row := range []struct {
		what      string
		got, want api.Deco
	}{
		{"New({1, 2})", deco.New(iv(1, 2)), dv(1, 2, api.Com)},
		{"New({1, +Inf})", deco.New(iv(1, inf)), dv(1, inf, api.Dac)},
		{"New(Empty)", deco.New(empty), api.Deco{X: empty, D: api.Trv}},
		{"New({2, 1})", deco.New(iv(2, 1)), nai},
		{"New({-0, 0})", deco.New(iv(signed, 0)), dv(0, 0, api.Com)},
		{"Set({1, +Inf}, Com)", deco.Set(iv(1, inf), api.Com), dv(1, inf, api.Dac)},
		{"Set(Empty, Def)", deco.Set(empty, api.Def), api.Deco{X: empty, D: api.Trv}},
		{"Set({1, 2}, Ill)", deco.Set(iv(1, 2), api.Ill), nai},
		{"Set({1, 2}, 5)", deco.Set(iv(1, 2), 5), nai},
		{"Set({NaN, 1}, Def)", deco.Set(iv(nan, 1), api.Def), nai},
		{"Apply(OpAdd, 0, {{1, 2}, Com}, {{3, 4}, Def})", deco.Apply(api.OpAdd, 0, dv(1, 2, api.Com), dv(3, 4, api.Def)), dv(4, 6, api.Def)},
		{"Apply(OpAdd, 0, {{1, 2}, Com}, NaI)", deco.Apply(api.OpAdd, 0, dv(1, 2, api.Com), nai), nai},
		{"Apply(OpAdd, 0, {{1, 2}, Com}, {Empty, Trv})", deco.Apply(api.OpAdd, 0, dv(1, 2, api.Com), api.Deco{X: empty, D: api.Trv}), api.Deco{X: empty, D: api.Trv}},
		{"Intersect({{1, 3}, Com}, {{2, 4}, Com})", deco.Intersect(dv(1, 3, api.Com), dv(2, 4, api.Com)), dv(2, 3, api.Trv)},
		{"Hull({{1, 2}, Com}, {Empty, Trv})", deco.Hull(dv(1, 2, api.Com), api.Deco{X: empty, D: api.Trv}), dv(1, 2, api.Trv)},
	} {
		isDeco(t, row.got, row.want, "%s", row.what)
	}
}

func TestExamplesOfLocal(t *testing.T) {
	type args = []api.Interval
	for _, row := range []struct {
		op, n int
		args  args
		want  api.Interval
		d     int
	}{
		{api.OpDiv, 0, args{iv(1, 2), iv(0, 1)}, iv(1, inf), api.Trv},
		{api.OpSqrt, 0, args{iv(-1, 4)}, iv(0, 2), api.Trv},
		{api.OpSqrt, 0, args{iv(0, 4)}, iv(0, 2), api.Com},
		{api.OpFloor, 0, args{iv(1, 1.5)}, iv(1, 1), api.Com},
		{api.OpFloor, 0, args{iv(0.5, 1)}, iv(0, 1), api.Def},
		{api.OpSign, 0, args{iv(0, 0)}, iv(0, 0), api.Com},
		{api.OpCeil, 0, args{iv(1, inf)}, iv(1, inf), api.Def},
		{api.OpAdd, 0, args{iv(greatest, greatest), iv(greatest, greatest)}, iv(greatest, inf), api.Dac},
		{api.OpPown, -1, args{iv(0, 1)}, iv(1, inf), api.Trv},
		{api.OpPown, 1025, args{iv(1, 2)}, entire, api.Trv},
		{api.OpAdd, 0, args{iv(1, 2)}, empty, api.Ill},
		{api.OpConst, 0, nil, empty, api.Ill},
	} {
		checkRow(t, row.op, row.n, row.args, row.want, row.d)
	}
}

func checkRow(t *testing.T, op, n int, args []api.Interval, want api.Interval, d int) {
	t.Helper()
	got, has := deco.Local(op, n, args...)
	is(t, got, want, "Local(%d, %d, %x)", op, n, args)
	if has != d {
		t.Errorf("Local(%d, %d, %x) is decorated by %d, want %d", op, n, args, has, d)
	}
}
