package expr

import "verge/api"

// bounds are the least and the greatest of the numbers that may stand in a place. All that a program
// is made of but its constants is held to such bounds, as numbers and as bytes.
type bounds struct{ least, most int }

func (b bounds) hold(n int) bool { return n >= b.least && n <= b.most }

func varsBounds() bounds { return bounds{0, api.MaxVars} }

func constsBounds() bounds { return bounds{0, api.MaxConsts} }

func codeBounds() bounds { return bounds{1, api.MaxCode} }

func opBounds() bounds { return bounds{api.OpConst, api.OpRoundAway} }

// operandBounds: the variables, and the lines ahead of the line.
func operandBounds(vars, line int) bounds { return bounds{0, vars + line - 1} }

// numberBounds are those of N; where it is not used, it is 0.
func numberBounds(op, consts int) bounds {
	switch op {
	case api.OpConst:
		return bounds{0, consts - 1}
	case api.OpPown:
		return bounds{-api.MaxPow, api.MaxPow}
	}
	return bounds{}
}

// operands tells how many operands an operation has.
func operands(op int) int {
	switch op {
	case api.OpConst:
		return 0
	case api.OpAdd, api.OpSub, api.OpMul, api.OpDiv, api.OpMin, api.OpMax:
		return 2
	case api.OpFMA:
		return 3
	}
	return 1
}

// numbered tells whether an operation uses N.
func numbered(op int) bool { return op == api.OpConst || op == api.OpPown }

// checkLine tells what is wrong with a line, if all ahead of it is well.
func checkLine(p api.Program, at int) api.Errno {
	in := p.Code[at]
	if !opBounds().hold(in.Op) {
		return api.ErrOp
	}
	used := operands(in.Op)
	for i, x := range [...]int{in.A, in.B, in.C} {
		var may bounds // what is not used is 0
		if i < used {
			may = operandBounds(p.Vars, at)
		}
		if !may.hold(x) {
			return api.ErrOperand
		}
	}
	if numberBounds(in.Op, len(p.Consts)).hold(in.N) {
		return api.OK
	}
	if in.Op == api.OpPown {
		return api.ErrPower
	}
	return api.ErrOperand
}
