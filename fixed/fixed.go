// Package fixed divides, scales and rounds 64-bit integers exactly, and has saturating sums and integer square roots.
package fixed

import (
	"math"
	"math/bits"

	"flightdeck/api"
)

// rounding is the direction in which a quotient is rounded.
type rounding byte

const (
	down rounding = iota
	up
	nearest
)

// Floor returns a divided by b, rounded down.
func Floor(a, b int64) (int64, api.Errno) { return quotient(a, 1, b, down) }

// Ceil returns a divided by b, rounded up.
func Ceil(a, b int64) (int64, api.Errno) { return quotient(a, 1, b, up) }

// Round returns a divided by b, rounded to the nearest integer, halves up.
func Round(a, b int64) (int64, api.Errno) { return quotient(a, 1, b, nearest) }

// Mod returns the remainder of a divided by b, from 0 to b-1.
func Mod(a, b int64) (int64, api.Errno) {
	if b < 1 {
		return 0, api.ErrArg
	}
	m := a % b
	if m < 0 {
		m += b
	}
	return m, api.OK
}

// MulDiv returns the product of a and b divided by c, rounded down; the product is exact.
func MulDiv(a, b, c int64) (int64, api.Errno) { return quotient(a, b, c, down) }

// MulDivUp is MulDiv, rounded up.
func MulDivUp(a, b, c int64) (int64, api.Errno) { return quotient(a, b, c, up) }

// MulDivRound is MulDiv, rounded to the nearest integer, halves up.
func MulDivRound(a, b, c int64) (int64, api.Errno) { return quotient(a, b, c, nearest) }

// quotient divides the magnitudes and rounds the magnitude of the result, because a product of 127 bits fits in two words only without its sign.
func quotient(a, b, c int64, r rounding) (int64, api.Errno) {
	if c == 0 {
		return 0, api.ErrArg
	}
	negative := (a < 0) != (b < 0) != (c < 0)
	divisor := magnitude(c)
	high, low := bits.Mul64(magnitude(a), magnitude(b))
	if high >= divisor {
		return 0, api.ErrRange
	}
	q, rest := bits.Div64(high, low, divisor)
	if q > 1<<63 {
		return 0, api.ErrRange
	}
	if grows(rest, divisor, negative, r) {
		q++
	}
	return signed(q, negative)
}

// grows reports whether rounding makes the magnitude of a quotient greater by one.
func grows(rest, divisor uint64, negative bool, r rounding) bool {
	switch {
	case rest == 0:
		return false
	case r == down:
		return negative
	case r == up:
		return !negative
	case negative: // halfway goes up, that is, to the lesser magnitude
		return 2*rest > divisor
	}
	return 2*rest >= divisor
}

// signed returns the number with a magnitude and a sign.
func signed(q uint64, negative bool) (int64, api.Errno) {
	if q > 1<<63 || q == 1<<63 && !negative {
		return 0, api.ErrRange
	}
	if negative {
		return int64(-q), api.OK
	}
	return int64(q), api.OK
}

// magnitude returns the absolute value; that of -2^63 fits only without a sign.
func magnitude(a int64) uint64 {
	if a < 0 {
		return -uint64(a)
	}
	return uint64(a)
}

// Sqrt returns the square root of n, rounded down, or 0 if n is negative.
func Sqrt(n int64) int64 {
	if n < 0 {
		return 0
	}
	var root int64
	for bit := int64(1) << 31; bit > 0; bit >>= 1 {
		next := root | bit
		if next <= n/next {
			root = next
		}
	}
	return root
}

// SqrtUp returns the square root of n, rounded up, or 0 if n is negative.
func SqrtUp(n int64) int64 {
	root := Sqrt(n)
	if root*root < n {
		root++
	}
	return root
}

// Add returns the sum of a and b, saturated.
func Add(a, b int64) int64 {
	s := a + b
	if (s > a) != (b > 0) && b != 0 {
		return extreme(b < 0)
	}
	return s
}

// Sub returns the difference of a and b, saturated.
func Sub(a, b int64) int64 {
	d := a - b
	if (d < a) != (b > 0) && b != 0 {
		return extreme(b > 0)
	}
	return d
}

// Mul returns the product of a and b, saturated.
func Mul(a, b int64) int64 {
	p, e := quotient(a, b, 1, down)
	if e != api.OK {
		return extreme((a < 0) != (b < 0))
	}
	return p
}

// Abs returns the absolute value of a, saturated.
func Abs(a int64) int64 {
	if a < 0 {
		return Sub(0, a)
	}
	return a
}

// extreme returns the least or the greatest integer.
func extreme(negative bool) int64 {
	if negative {
		return math.MinInt64
	}
	return math.MaxInt64
}

// Clamp returns lo if x is below lo, else hi if x is above hi, else x.
func Clamp(x, lo, hi int64) int64 {
	if x < lo {
		return lo
	}
	if x > hi {
		return hi
	}
	return x
}
