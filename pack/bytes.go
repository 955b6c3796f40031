package pack

import "math"

// How many bytes a number has, and the form of a bare and of a decorated interval; how many a box has
// ahead of its parts.
const (
	numberLen = 8
	bareLen   = 2 * numberLen
	decoLen   = bareLen + 1
	headLen   = 1
)

func boxLen(parts int) int { return headLen + parts*bareLen }

// part tells the bytes of one of a box's parts.
func part(b []byte, i int) []byte { return cut(b, boxLen(i), bareLen) }

// cut tells n of the bytes, without room behind them: their neighbour cannot be grown over.
func cut(b []byte, from, n int) []byte { return b[from : from+n : from+n] }

// lay puts a number's bytes down.
func lay(into []byte, x float64) {
	var form [numberLen]byte
	bits := math.Float64bits(x)
	for i := range form {
		form[i] = byte(bits >> (8 * i))
	}
	copy(into, form[:])
}

// number takes a number up again.
func number(form []byte) float64 {
	bits := uint64(0)
	for i, b := range form {
		bits |= uint64(b) << (8 * i)
	}
	return math.Float64frombits(bits)
}
