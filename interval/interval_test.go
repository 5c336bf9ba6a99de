package interval

import (
	"math"
	"math/big"
	"testing"

	"flightdeck/api"
)

const top = api.MaxValue

func numbers() []int64 {
	return []int64{-top, -top + 1, -3037000500, -17, -3, -2, -1, 0, 1, 2, 3, 9, 1 << 31, 3037000499, top - 1, top}
}

func samples() []api.Interval {
	var l []api.Interval
	for _, lo := range numbers() {
		for _, hi := range numbers() {
			if lo <= hi {
				l = append(l, api.Interval{Lo: lo, Hi: hi})
			}
		}
	}
	return l
}

func invalid() []api.Interval {
	return []api.Interval{{Lo: 1, Hi: 0}, {Lo: -top - 1, Hi: 0}, {Lo: 0, Hi: top + 1}, {Lo: math.MinInt64, Hi: math.MaxInt64}, {Lo: math.MaxInt64, Hi: math.MinInt64}}
}

// outward returns the least interval that contains the numbers, rounded outwards; ErrRange if it is not valid.
func outward(l ...*big.Rat) (api.Interval, api.Errno) {
	least, greatest := l[0], l[0]
	for _, x := range l {
		if x.Cmp(least) < 0 {
			least = x
		}
		if x.Cmp(greatest) > 0 {
			greatest = x
		}
	}
	lo := new(big.Int).Div(least.Num(), least.Denom()) // the denominator is positive: rounded down
	hi := new(big.Int).Neg(greatest.Num())
	hi.Div(hi, greatest.Denom()).Neg(hi)
	limit := big.NewInt(top)
	if lo.CmpAbs(limit) > 0 || hi.CmpAbs(limit) > 0 {
		return api.Interval{}, api.ErrRange
	}
	return api.Interval{Lo: lo.Int64(), Hi: hi.Int64()}, api.OK
}

func rat(x int64) *big.Rat { return new(big.Rat).SetInt64(x) }

// corners returns f of all pairs of bounds.
func corners(x, y api.Interval, f func(z, a, b *big.Rat) *big.Rat) (l []*big.Rat) {
	for _, a := range []int64{x.Lo, x.Hi} {
		for _, b := range []int64{y.Lo, y.Hi} {
			l = append(l, f(new(big.Rat), rat(a), rat(b)))
		}
	}
	return l
}

func same(t *testing.T, name string, x, y, got api.Interval, e api.Errno, want api.Interval, w api.Errno) {
	t.Helper()
	if got != want || e != w {
		t.Errorf("%s(%v, %v) = %v, %v, want %v, %v", name, x, y, got, e, want, w)
	}
}

// P3.1
func TestPredicates(t *testing.T) {
	for _, x := range samples() {
		if got, e := Make(x.Lo, x.Hi); got != x || e != api.OK || !Valid(x) {
			t.Errorf("Make(%v) = %v, %v", x, got, e)
		}
		if Width(x) != uint64(x.Hi)-uint64(x.Lo) {
			t.Errorf("Width(%v) = %d", x, Width(x))
		}
		for _, v := range append(numbers(), math.MinInt64, math.MaxInt64) {
			if Has(x, v) != (x.Lo <= v && v <= x.Hi) {
				t.Errorf("Has(%v, %d)", x, v)
			}
		}
		for _, y := range samples() {
			if Within(x, y) != (y.Lo <= x.Lo && x.Hi <= y.Hi) {
				t.Errorf("Within(%v, %v)", x, y)
			}
		}
		for _, y := range invalid() {
			if Within(x, y) || Within(y, x) {
				t.Errorf("Within(%v, %v)", x, y)
			}
		}
	}
	for _, x := range invalid() {
		want := api.ErrRange
		if x.Lo > x.Hi {
			want = api.ErrArg
		}
		if got, e := Make(x.Lo, x.Hi); got != (api.Interval{}) || e != want || Valid(x) || Has(x, 0) || Width(x) != 0 || Within(x, x) {
			t.Errorf("invalid %v: %v, %v", x, got, e)
		}
	}
}

// P3.2, P3.3, P3.4: all pairs of intervals against exact rational numbers.
func TestPairs(t *testing.T) {
	for _, x := range samples() {
		for _, y := range samples() {
			got, e := Add(x, y)
			want, w := outward(corners(x, y, (*big.Rat).Add)...)
			same(t, "Add", x, y, got, e, want, w)
			got, e = Sub(x, y)
			want, w = outward(corners(x, y, (*big.Rat).Sub)...)
			same(t, "Sub", x, y, got, e, want, w)
			got, e = Mul(x, y)
			want, w = outward(corners(x, y, (*big.Rat).Mul)...)
			same(t, "Mul", x, y, got, e, want, w)
			got, e = Quo(x, y)
			want, w = api.Interval{}, api.ErrArg
			if y.Lo > 0 || y.Hi < 0 {
				want, w = outward(corners(x, y, (*big.Rat).Quo)...)
			}
			same(t, "Quo", x, y, got, e, want, w)
			got, e = Hull(x, y)
			same(t, "Hull", x, y, got, e, api.Interval{Lo: min(x.Lo, y.Lo), Hi: max(x.Hi, y.Hi)}, api.OK)
			got, e = Meet(x, y)
			want, w = api.Interval{Lo: max(x.Lo, y.Lo), Hi: min(x.Hi, y.Hi)}, api.OK
			if want.Lo > want.Hi {
				want, w = api.Interval{}, api.ErrNone
			}
			same(t, "Meet", x, y, got, e, want, w)
		}
	}
}

// P3.2, P3.3, P3.4
func TestSingles(t *testing.T) {
	for _, x := range samples() {
		got, e := Neg(x)
		same(t, "Neg", x, x, got, e, api.Interval{Lo: -x.Hi, Hi: -x.Lo}, api.OK)
		got, e = Abs(x)
		want := api.Interval{Lo: min(max(x.Lo, -x.Lo), max(x.Hi, -x.Hi)), Hi: max(-x.Lo, x.Hi)}
		if x.Lo < 0 && x.Hi > 0 {
			want.Lo = 0
		}
		same(t, "Abs", x, x, got, e, want, api.OK)
		for _, k := range []int64{0, 1, 5, top, math.MaxInt64} {
			got, e = Widen(x, k)
			want, w := outward(new(big.Rat).Sub(rat(x.Lo), rat(k)), new(big.Rat).Add(rat(x.Hi), rat(k)))
			same(t, "Widen", x, x, got, e, want, w)
		}
		if got, e = Widen(x, -1); got != (api.Interval{}) || e != api.ErrArg {
			t.Errorf("Widen(%v, -1) = %v, %v", x, got, e)
		}
		got, e = Sqrt(x)
		if x.Lo < 0 {
			same(t, "Sqrt", x, x, got, e, api.Interval{}, api.ErrArg)
			continue
		}
		if e != api.OK || got.Lo*got.Lo > x.Lo || (got.Lo+1)*(got.Lo+1) <= x.Lo || got.Hi*got.Hi < x.Hi || got.Hi > 0 && (got.Hi-1)*(got.Hi-1) >= x.Hi {
			t.Errorf("Sqrt(%v) = %v, %v", x, got, e)
		}
	}
}

// P3.4
func TestScale(t *testing.T) {
	factors := append(numbers(), math.MinInt64, math.MaxInt64)
	for _, x := range samples() {
		for _, num := range factors {
			for _, den := range factors {
				got, e := Scale(x, num, den)
				if den == 0 {
					same(t, "Scale", x, x, got, e, api.Interval{}, api.ErrArg)
					continue
				}
				f := new(big.Rat).SetFrac(big.NewInt(num), big.NewInt(den))
				want, w := outward(new(big.Rat).Mul(rat(x.Lo), f), new(big.Rat).Mul(rat(x.Hi), f))
				if got != want || e != w {
					t.Errorf("Scale(%v, %d, %d) = %v, %v, want %v, %v", x, num, den, got, e, want, w)
				}
			}
		}
	}
}

// ErrArg goes ahead of all other errors.
func TestInvalid(t *testing.T) {
	ok := api.Interval{Lo: 1, Hi: 2}
	for _, x := range invalid() {
		for name, f := range map[string]func(x, y api.Interval) (api.Interval, api.Errno){"Add": Add, "Sub": Sub, "Mul": Mul, "Quo": Quo, "Hull": Hull, "Meet": Meet} {
			got, e := f(x, ok)
			same(t, name, x, ok, got, e, api.Interval{}, api.ErrArg)
			got, e = f(ok, x)
			same(t, name, ok, x, got, e, api.Interval{}, api.ErrArg)
		}
		for name, f := range map[string]func(x api.Interval) (api.Interval, api.Errno){"Neg": Neg, "Abs": Abs, "Sqrt": Sqrt, "Widen": func(x api.Interval) (api.Interval, api.Errno) { return Widen(x, 0) }, "Scale": func(x api.Interval) (api.Interval, api.Errno) { return Scale(x, 1, 1) }} {
			got, e := f(x)
			same(t, name, x, x, got, e, api.Interval{}, api.ErrArg)
		}
	}
}

// P3.5: results contain the results of members, and keep inclusions.
func TestContainment(t *testing.T) {
	l := []api.Interval{{Lo: -7, Hi: -3}, {Lo: -4, Hi: 5}, {Lo: 0, Hi: 3}, {Lo: 2, Hi: 9}, {Lo: 3, Hi: 3}}
	for _, x := range l {
		for _, y := range l {
			s, _ := Add(x, y)
			d, _ := Sub(x, y)
			p, _ := Mul(x, y)
			q, e := Quo(x, y)
			for a := x.Lo; a <= x.Hi; a++ {
				for b := y.Lo; b <= y.Hi; b++ {
					if !Has(s, a+b) || !Has(d, a-b) || !Has(p, a*b) {
						t.Errorf("%v, %v: %d, %d", x, y, a, b)
					}
					if e == api.OK && (float64(a)/float64(b) < float64(q.Lo) || float64(a)/float64(b) > float64(q.Hi)) {
						t.Errorf("Quo(%v, %v) = %v without %d / %d", x, y, q, a, b)
					}
				}
			}
			for _, z := range l {
				if !Within(x, z) {
					continue
				}
				for name, f := range map[string]func(x, y api.Interval) (api.Interval, api.Errno){"Add": Add, "Sub": Sub, "Mul": Mul, "Quo": Quo, "Hull": Hull} {
					small, e := f(x, y)
					great, _ := f(z, y)
					if e == api.OK && !Within(small, great) {
						t.Errorf("%s: %v within %v, but %v not within %v", name, x, z, small, great)
					}
				}
			}
		}
	}
}

// The examples of the chapter.
func TestExamples(t *testing.T) {
	i := func(lo, hi int64) api.Interval { return api.Interval{Lo: lo, Hi: hi} }
	got, e := Mul(i(-2, 3), i(-5, 4))
	same(t, "Mul", i(-2, 3), i(-5, 4), got, e, i(-15, 12), api.OK)
	got, e = Quo(i(1, 2), i(3, 4))
	same(t, "Quo", i(1, 2), i(3, 4), got, e, i(0, 1), api.OK)
	got, e = Scale(i(7, 10), 1, 3)
	same(t, "Scale", i(7, 10), i(1, 3), got, e, i(2, 4), api.OK)
	got, e = Scale(i(7, 10), -1, 3)
	same(t, "Scale", i(7, 10), i(-1, 3), got, e, i(-4, -2), api.OK)
	got, e = Sqrt(i(8, 9))
	same(t, "Sqrt", i(8, 9), i(8, 9), got, e, i(2, 3), api.OK)
	got, e = Abs(i(-2, 1))
	same(t, "Abs", i(-2, 1), i(-2, 1), got, e, i(0, 2), api.OK)
	got, e = Meet(i(0, 1), i(2, 3))
	same(t, "Meet", i(0, 1), i(2, 3), got, e, api.Interval{}, api.ErrNone)
}
