package short

import (
	"math"

	"verge/fbit"
)

func empty[F fbit.Float]() Pair[F] { return Pair[F]{Lo: F(math.Inf(1)), Hi: F(math.Inf(-1))} }

// read tells an interval of either kind as it is read.
func read[F fbit.Float](x Pair[F]) Pair[F] {
	void := empty[F]()
	if ordered := x.Lo <= x.Hi; !ordered || x.Lo == void.Lo || x.Hi == void.Hi { // a NaN is not ordered
		return void
	}
	return Pair[F]{Lo: fbit.Plain(x.Lo), Hi: fbit.Plain(x.Hi)}
}

// down tells the greatest end of binary32 that is not above x, which is no NaN and not +Inf.
func down(x float64) float32 {
	y := near(x)
	if float64(y) > x {
		y = fbit.NextDown(y)
	}
	return y
}

// up tells the least end of binary32 that is not below x, which is no NaN and not -Inf.
func up(x float64) float32 {
	y := near(x)
	if float64(y) < x {
		y = fbit.NextUp(y)
	}
	return y
}

// near tells the number of binary32 nearest to x, also of an x beyond all of them: what a conversion
// makes of such a one the language leaves open.
func near(x float64) float32 {
	return fbit.Plain(float32(min(max(x, -math.MaxFloat32), math.MaxFloat32)))
}
