package fixed

import (
	"math"
	"math/big"
	"testing"

	"flightdeck/api"
)

// samples are the numbers at which 64-bit arithmetic goes wrong, and ordinary ones.
func samples() []int64 {
	l := []int64{0, 1, 2, 3, 5, 7, 10, 99, 100, 1 << 31, 1<<32 - 1, 1 << 32, 1 << 40, 3037000499, 3037000500, 1<<62 - 1, 1 << 62, 1<<62 + 1, math.MaxInt64 - 1, math.MaxInt64, math.MinInt64, math.MinInt64 + 1}
	for _, x := range l {
		l = append(l, -x)
	}
	seed := uint64(1)
	for i := range 12 {
		seed = seed*6364136223846793005 + 1442695040888963407
		l = append(l, int64(seed>>(5*i%60)))
	}
	return l
}

// exact returns the rounded quotient of a product by big integers, and whether it fits.
func exact(a, b, c int64, r rounding) (int64, bool) {
	num := new(big.Int).Mul(big.NewInt(a), big.NewInt(b))
	den := big.NewInt(c)
	if c < 0 {
		num.Neg(num)
		den.Neg(den)
	}
	switch r {
	case up:
		num.Add(num, new(big.Int).Sub(den, big.NewInt(1)))
	case nearest: // floor((2n + d) / 2d)
		num.Lsh(num, 1)
		num.Add(num, den)
		den.Lsh(den, 1)
	}
	q := new(big.Int)
	q.DivMod(num, den, new(big.Int))
	return q.Int64(), q.IsInt64()
}

func compare(t *testing.T, name string, x int64, e api.Errno, a, b, c int64, r rounding) {
	t.Helper()
	if c == 0 {
		if x != 0 || e != api.ErrArg {
			t.Errorf("%s(%d, %d, 0) = %d, %v", name, a, b, x, e)
		}
		return
	}
	want, ok := exact(a, b, c, r)
	if ok && (x != want || e != api.OK) || !ok && (x != 0 || e != api.ErrRange) {
		t.Errorf("%s(%d, %d, %d) = %d, %v, want %d %v", name, a, b, c, x, e, want, ok)
	}
}

// P1.1, P1.3
func TestQuotients(t *testing.T) {
	l := samples()
	for _, a := range l {
		for _, c := range l {
			x, e := Floor(a, c)
			compare(t, "Floor", x, e, a, 1, c, down)
			x, e = Ceil(a, c)
			compare(t, "Ceil", x, e, a, 1, c, up)
			x, e = Round(a, c)
			compare(t, "Round", x, e, a, 1, c, nearest)
			for _, b := range l {
				x, e = MulDiv(a, b, c)
				compare(t, "MulDiv", x, e, a, b, c, down)
				x, e = MulDivUp(a, b, c)
				compare(t, "MulDivUp", x, e, a, b, c, up)
				x, e = MulDivRound(a, b, c)
				compare(t, "MulDivRound", x, e, a, b, c, nearest)
			}
		}
	}
}

// P1.1 to P1.6: the examples of the chapter.
func TestExamples(t *testing.T) {
	type call struct {
		name string
		got  int64
		e    api.Errno
		want int64
	}
	var calls []call
	add := func(name string, want int64) func(int64, api.Errno) {
		return func(got int64, e api.Errno) { calls = append(calls, call{name, got, e, want}) }
	}
	add("Floor", -4)(Floor(-7, 2))
	add("Ceil", -3)(Ceil(-7, 2))
	add("Round", -3)(Round(-7, 2))
	add("Mod", 3)(Mod(-7, 5))
	add("MulDiv", 1<<50)(MulDiv(1<<40, 1<<40, 1<<30))
	add("MulDivUp", -17)(MulDivUp(7, 5, -2))
	add("MulDivRound", 3)(MulDivRound(5, 1, 2))
	add("Sqrt", 9)(Sqrt(99), api.OK)
	add("SqrtUp", 10)(SqrtUp(99), api.OK)
	add("Add", math.MaxInt64)(Add(math.MaxInt64, 1), api.OK)
	add("Clamp", 7)(Clamp(5, 7, 3), api.OK)
	for _, c := range calls {
		if c.got != c.want || c.e != api.OK {
			t.Errorf("%s: %d, %v, want %d", c.name, c.got, c.e, c.want)
		}
	}
}

// P1.2
func TestMod(t *testing.T) {
	for _, a := range samples() {
		for _, b := range samples() {
			x, e := Mod(a, b)
			if b < 1 {
				if x != 0 || e != api.ErrArg {
					t.Errorf("Mod(%d, %d) = %d, %v", a, b, x, e)
				}
				continue
			}
			want := new(big.Int).Mod(big.NewInt(a), big.NewInt(b)).Int64()
			if x != want || e != api.OK {
				t.Errorf("Mod(%d, %d) = %d, %v, want %d", a, b, x, e, want)
			}
		}
	}
}

// P1.4
func TestRoots(t *testing.T) {
	for _, n := range samples() {
		root, rootUp := Sqrt(n), SqrtUp(n)
		if n < 0 {
			if root != 0 || rootUp != 0 {
				t.Errorf("roots of %d: %d, %d", n, root, rootUp)
			}
			continue
		}
		want := new(big.Int).Sqrt(big.NewInt(n)).Int64()
		wantUp := want
		if want*want != n {
			wantUp++
		}
		if root != want || rootUp != wantUp {
			t.Errorf("roots of %d: %d, %d, want %d, %d", n, root, rootUp, want, wantUp)
		}
	}
}

// saturated returns the int64 that is nearest to x.
func saturated(x *big.Int) int64 {
	if x.IsInt64() {
		return x.Int64()
	}
	if x.Sign() < 0 {
		return math.MinInt64
	}
	return math.MaxInt64
}

// P1.5
func TestSaturation(t *testing.T) {
	for _, a := range samples() {
		x := big.NewInt(a)
		if got, want := Abs(a), saturated(new(big.Int).Abs(x)); got != want {
			t.Errorf("Abs(%d) = %d, want %d", a, got, want)
		}
		for _, b := range samples() {
			y := big.NewInt(b)
			if got, want := Add(a, b), saturated(new(big.Int).Add(x, y)); got != want {
				t.Errorf("Add(%d, %d) = %d, want %d", a, b, got, want)
			}
			if got, want := Sub(a, b), saturated(new(big.Int).Sub(x, y)); got != want {
				t.Errorf("Sub(%d, %d) = %d, want %d", a, b, got, want)
			}
			if got, want := Mul(a, b), saturated(new(big.Int).Mul(x, y)); got != want {
				t.Errorf("Mul(%d, %d) = %d, want %d", a, b, got, want)
			}
		}
	}
}

// P1.6
func TestClamp(t *testing.T) {
	for _, c := range [][4]int64{{5, 1, 9, 5}, {0, 1, 9, 1}, {10, 1, 9, 9}, {1, 1, 9, 1}, {9, 1, 9, 9}, {5, 7, 3, 7}, {8, 7, 3, 3}, {7, 7, 3, 3}, {math.MinInt64, -1, 1, -1}, {math.MaxInt64, -1, 1, 1}} {
		if got := Clamp(c[0], c[1], c[2]); got != c[3] {
			t.Errorf("Clamp(%d, %d, %d) = %d, want %d", c[0], c[1], c[2], got, c[3])
		}
	}
}
