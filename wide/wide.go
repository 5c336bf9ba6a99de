// Package wide computes with signed 128-bit integers.
package wide

import (
	"math"
	"math/bits"
	"strconv"

	"flightdeck/api"
)

// Of returns a as a wide integer.
func Of(a int64) api.Wide { return api.Wide{Hi: a >> 63, Lo: uint64(a)} }

// Mul returns the exact product of a and b.
func Mul(a, b int64) api.Wide {
	high, low := bits.Mul64(uint64(a), uint64(b))
	// Reading a negative factor without its sign adds 2^64 times the other factor.
	if a < 0 {
		high -= uint64(b)
	}
	if b < 0 {
		high -= uint64(a)
	}
	return api.Wide{Hi: int64(high), Lo: low}
}

// Add returns the sum, and whether it is representable.
func Add(x, y api.Wide) (api.Wide, bool) {
	low, carry := bits.Add64(x.Lo, y.Lo, 0)
	high, _ := bits.Add64(uint64(x.Hi), uint64(y.Hi), carry)
	s := api.Wide{Hi: int64(high), Lo: low}
	if (x.Hi < 0) == (y.Hi < 0) && (s.Hi < 0) != (x.Hi < 0) {
		return api.Wide{}, false
	}
	return s, true
}

// Sub returns the difference, and whether it is representable.
func Sub(x, y api.Wide) (api.Wide, bool) {
	low, borrow := bits.Sub64(x.Lo, y.Lo, 0)
	high, _ := bits.Sub64(uint64(x.Hi), uint64(y.Hi), borrow)
	d := api.Wide{Hi: int64(high), Lo: low}
	if (x.Hi < 0) != (y.Hi < 0) && (d.Hi < 0) != (x.Hi < 0) {
		return api.Wide{}, false
	}
	return d, true
}

// Neg returns the negated number, and whether it is representable.
func Neg(x api.Wide) (api.Wide, bool) {
	if x == (api.Wide{Hi: math.MinInt64}) {
		return api.Wide{}, false
	}
	return Sub(api.Wide{}, x)
}

// Abs returns the absolute value, and whether it is representable.
func Abs(x api.Wide) (api.Wide, bool) {
	if x.Hi < 0 {
		return Neg(x)
	}
	return x, true
}

// Cmp returns -1, 0 or 1 as x is less than, equal to or greater than y.
func Cmp(x, y api.Wide) int {
	switch {
	case x == y:
		return 0
	case x.Hi < y.Hi || x.Hi == y.Hi && x.Lo < y.Lo:
		return -1
	}
	return 1
}

// Sign returns -1, 0 or 1 as x is negative, zero or positive.
func Sign(x api.Wide) int { return Cmp(x, api.Wide{}) }

// Times returns the product with a, and whether it is representable.
func Times(x api.Wide, a int64) (api.Wide, bool) {
	m, n := size(x), size(Of(a))
	high, low := bits.Mul64(m.low, n.low)
	over, middle := bits.Mul64(m.high, n.low)
	high, carry := bits.Add64(high, middle, 0)
	if over != 0 || carry != 0 {
		return api.Wide{}, false
	}
	return signed(magnitude{high, low}, (x.Hi < 0) != (a < 0))
}

// Div returns the quotient, rounded down, and whether it is representable.
func Div(x, y api.Wide) (api.Wide, bool) {
	return quotient(x, y, func(rest, divisor magnitude, negative bool) bool { return negative })
}

// DivUp returns the quotient, rounded up, and whether it is representable.
func DivUp(x, y api.Wide) (api.Wide, bool) {
	return quotient(x, y, func(rest, divisor magnitude, negative bool) bool { return !negative })
}

// Nearest returns the quotient, rounded to the nearest integer, halves up, and whether it is representable.
func Nearest(x, y api.Wide) (api.Wide, bool) {
	return quotient(x, y, func(rest, divisor magnitude, negative bool) bool {
		other := minus(divisor, rest)
		if rest == other { // halfway: the greater number has the lesser magnitude if it is negative
			return !negative
		}
		return less(other, rest)
	})
}

// Sqrt returns the square root, rounded down, and whether x is not negative.
func Sqrt(x api.Wide) (uint64, bool) {
	if x.Hi < 0 {
		return 0, false
	}
	var root uint64
	for bit := uint64(1) << 63; bit > 0; bit >>= 1 {
		next := root | bit
		high, low := bits.Mul64(next, next)
		if !less(size(x), magnitude{high, low}) {
			root = next
		}
	}
	return root, true
}

// Int returns x as an int64, and whether it is one.
func Int(x api.Wide) (int64, bool) {
	a := int64(x.Lo)
	if x != Of(a) {
		return 0, false
	}
	return a, true
}

// chunk is the greatest power of ten that one word holds, with its number of digits.
const (
	chunk  = 10_000_000_000_000_000_000
	digits = 19
)

// Text returns x in decimal.
func Text(x api.Wide) string {
	s := ""
	m := size(x)
	for m.high != 0 || m.low >= chunk {
		q, rest := divide(m, magnitude{0, chunk})
		part := strconv.FormatUint(rest.low, 10)
		for len(part) < digits {
			part = "0" + part
		}
		s = part + s
		m = q
	}
	s = strconv.FormatUint(m.low, 10) + s
	if x.Hi < 0 {
		return "-" + s
	}
	return s
}

// Parse returns the number whose Text is s.
func Parse(s string) (api.Wide, api.Errno) {
	negative := len(s) > 0 && s[0] == '-'
	if negative {
		s = s[1:]
	}
	if s == "" || s[0] == '0' && (len(s) > 1 || negative) {
		return api.Wide{}, api.ErrForm
	}
	m, fits := magnitude{}, true
	for i := range len(s) {
		if s[i] < '0' || s[i] > '9' {
			return api.Wide{}, api.ErrForm
		}
		if fits {
			m, fits = append10(m, uint64(s[i]-'0'))
		}
	}
	x, ok := signed(m, negative)
	if !fits || !ok {
		return api.Wide{}, api.ErrRange
	}
	return x, api.OK
}

// append10 returns ten times m plus a digit, and whether it fits.
func append10(m magnitude, digit uint64) (magnitude, bool) {
	over, high := bits.Mul64(m.high, 10)
	carry, low := bits.Mul64(m.low, 10)
	low, more := bits.Add64(low, digit, 0)
	high, lost := bits.Add64(high, carry, more)
	return magnitude{high, low}, over == 0 && lost == 0
}

// magnitude is a 128-bit integer without a sign.
type magnitude struct{ high, low uint64 }

// size returns the absolute value; that of -2^127 fits only without a sign.
func size(x api.Wide) magnitude {
	m := magnitude{uint64(x.Hi), x.Lo}
	if x.Hi < 0 {
		return minus(magnitude{}, m)
	}
	return m
}

// signed returns the number with a magnitude and a sign, and whether it is representable.
func signed(m magnitude, negative bool) (api.Wide, bool) {
	least := magnitude{high: 1 << 63}
	if less(least, m) || m == least && !negative {
		return api.Wide{}, false
	}
	if negative {
		m = minus(magnitude{}, m)
	}
	return api.Wide{Hi: int64(m.high), Lo: m.low}, true
}

func less(m, n magnitude) bool {
	return m.high < n.high || m.high == n.high && m.low < n.low
}

// minus returns the difference modulo 2^128.
func minus(m, n magnitude) magnitude {
	low, borrow := bits.Sub64(m.low, n.low, 0)
	high, _ := bits.Sub64(m.high, n.high, borrow)
	return magnitude{high, low}
}

// quotient divides the magnitudes; grow tells, for a rest that is not zero, whether the magnitude of the result is rounded up.
func quotient(x, y api.Wide, grow func(rest, divisor magnitude, negative bool) bool) (api.Wide, bool) {
	if y == (api.Wide{}) {
		return api.Wide{}, false
	}
	negative := (x.Hi < 0) != (y.Hi < 0)
	divisor := size(y)
	q, rest := divide(size(x), divisor)
	if rest != (magnitude{}) && grow(rest, divisor, negative) {
		// A rest needs a divisor of at least 2, so that q is far below the greatest magnitude.
		q = minus(q, minus(magnitude{}, magnitude{low: 1}))
	}
	return signed(q, negative)
}

// divide returns the quotient and the rest of m and a divisor that is not zero.
func divide(m, divisor magnitude) (q, rest magnitude) {
	if divisor.high == 0 {
		q.high, rest.low = bits.Div64(0, m.high, divisor.low)
		q.low, rest.low = bits.Div64(rest.low, m.low, divisor.low)
		return q, rest
	}
	// The quotient is less than 2^64. Dividing by the leading word of the divisor gives it or one more; taking one away first makes that the quotient or one less.
	shift := uint(bits.LeadingZeros64(divisor.high))
	lead := divisor.high<<shift | divisor.low>>(64-shift)
	guess, _ := bits.Div64(m.high>>1, m.high<<63|m.low>>1, lead)
	guess >>= 63 - shift
	if guess > 0 {
		guess--
	}
	high, low := bits.Mul64(guess, divisor.low)
	rest = minus(m, magnitude{high + guess*divisor.high, low})
	for !less(rest, divisor) {
		guess++
		rest = minus(rest, divisor)
	}
	return magnitude{low: guess}, rest
}
