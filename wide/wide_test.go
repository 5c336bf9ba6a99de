package wide

import (
	"math"
	"math/big"
	"strings"
	"testing"

	"flightdeck/api"
)

func toBig(x api.Wide) *big.Int {
	b := new(big.Int).Lsh(big.NewInt(x.Hi), 64)
	return b.Add(b, new(big.Int).SetUint64(x.Lo))
}

// representable reports whether b is from -2^127 to 2^127 - 1.
func representable(b *big.Int) bool {
	limit := new(big.Int).Lsh(big.NewInt(1), 127)
	return b.Cmp(new(big.Int).Neg(limit)) >= 0 && b.Cmp(limit) < 0
}

func numbers() []int64 {
	return []int64{0, 1, -1, 2, -2, 3, -3, 7, -7, 1 << 31, -1 << 31, 1<<32 + 5, 1 << 62, -1 << 62, math.MaxInt64, math.MaxInt64 - 1, math.MinInt64, math.MinInt64 + 1}
}

func samples() []api.Wide {
	var l []api.Wide
	words := []uint64{0, 1, 2, 5, 1 << 32, 1<<63 - 1, 1 << 63, 1<<63 + 1, math.MaxUint64 - 1, math.MaxUint64}
	for _, hi := range []int64{0, 1, -1, 3, -3, 1 << 31, -1 << 33, 1 << 62, -1 << 62, math.MaxInt64, math.MinInt64} {
		for _, lo := range words {
			l = append(l, api.Wide{Hi: hi, Lo: lo})
		}
	}
	seed := uint64(7)
	next := func() uint64 {
		seed = seed*6364136223846793005 + 1442695040888963407
		return seed ^ seed>>29
	}
	for i := range 30 {
		l = append(l, api.Wide{Hi: int64(next()) >> (i * 2), Lo: next()})
	}
	return l
}

// check compares a result with the exact one; want is nil if it is not defined.
func check(t *testing.T, name string, x api.Wide, ok bool, want *big.Int) {
	t.Helper()
	if want == nil || !representable(want) {
		if ok || x != (api.Wide{}) {
			t.Errorf("%s = %v, %v, want no result", name, x, ok)
		}
		return
	}
	if !ok || toBig(x).Cmp(want) != 0 {
		t.Errorf("%s = %v, %v, want %v", name, toBig(x), ok, want)
	}
}

// P2.1
func TestOfMulInt(t *testing.T) {
	for _, a := range numbers() {
		check(t, "Of", Of(a), true, big.NewInt(a))
		if n, ok := Int(Of(a)); !ok || n != a {
			t.Errorf("Int(Of(%d)) = %d, %v", a, n, ok)
		}
		for _, b := range numbers() {
			check(t, "Mul", Mul(a, b), true, new(big.Int).Mul(big.NewInt(a), big.NewInt(b)))
		}
	}
	for _, x := range samples() {
		n, ok := Int(x)
		want := toBig(x)
		if ok != want.IsInt64() || ok && n != want.Int64() || !ok && n != 0 {
			t.Errorf("Int(%v) = %d, %v", x, n, ok)
		}
	}
	if x := Mul(math.MinInt64, math.MinInt64); x != (api.Wide{Hi: 1 << 62}) {
		t.Errorf("2^126: %v", x)
	}
}

// P2.2, P2.3
func TestArithmetic(t *testing.T) {
	for _, x := range samples() {
		b := toBig(x)
		got, ok := Neg(x)
		check(t, "Neg", got, ok, new(big.Int).Neg(b))
		got, ok = Abs(x)
		check(t, "Abs", got, ok, new(big.Int).Abs(b))
		if Sign(x) != b.Sign() {
			t.Errorf("Sign(%v) = %d", x, Sign(x))
		}
		for _, a := range numbers() {
			got, ok = Times(x, a)
			check(t, "Times", got, ok, new(big.Int).Mul(b, big.NewInt(a)))
		}
		for _, y := range samples() {
			c := toBig(y)
			got, ok = Add(x, y)
			check(t, "Add", got, ok, new(big.Int).Add(b, c))
			got, ok = Sub(x, y)
			check(t, "Sub", got, ok, new(big.Int).Sub(b, c))
			if Cmp(x, y) != b.Cmp(c) {
				t.Errorf("Cmp(%v, %v) = %d", x, y, Cmp(x, y))
			}
		}
	}
}

// floor returns the quotient rounded down, nil if b is 0.
func floor(a, b *big.Int) *big.Int {
	if b.Sign() == 0 {
		return nil
	}
	if b.Sign() < 0 {
		a, b = new(big.Int).Neg(a), new(big.Int).Neg(b)
	}
	q := new(big.Int)
	q.DivMod(a, b, new(big.Int))
	return q
}

// P2.4
func TestQuotients(t *testing.T) {
	for _, x := range samples() {
		for _, y := range append(samples(), Of(2), Of(-2), Of(3), Of(10)) {
			b, c := toBig(x), toBig(y)
			down := floor(b, c)
			var up, near *big.Int
			if down != nil {
				up = new(big.Int).Neg(floor(new(big.Int).Neg(b), c))
				twice := new(big.Int).Lsh(b, 1)
				near = floor(twice.Add(twice, c), new(big.Int).Lsh(c, 1))
			}
			got, ok := Div(x, y)
			check(t, "Div", got, ok, down)
			got, ok = DivUp(x, y)
			check(t, "DivUp", got, ok, up)
			got, ok = Nearest(x, y)
			check(t, "Nearest", got, ok, near)
		}
	}
	for name, c := range map[string]struct {
		f    func(x, y api.Wide) (api.Wide, bool)
		want int64
	}{"Div": {Div, -4}, "DivUp": {DivUp, -3}, "Nearest": {Nearest, -3}} {
		if x, ok := c.f(Of(-7), Of(2)); !ok || x != Of(c.want) {
			t.Errorf("%s(-7, 2) = %v, %v", name, x, ok)
		}
	}
}

// P2.5
func TestSqrt(t *testing.T) {
	for _, x := range append(samples(), Of(99), Of(100), Of(101)) {
		root, ok := Sqrt(x)
		b := toBig(x)
		if b.Sign() < 0 {
			if ok || root != 0 {
				t.Errorf("Sqrt(%v) = %d, %v", b, root, ok)
			}
			continue
		}
		if !ok || new(big.Int).SetUint64(root).Cmp(new(big.Int).Sqrt(b)) != 0 {
			t.Errorf("Sqrt(%v) = %d, %v", b, root, ok)
		}
	}
	if root, ok := Sqrt(api.Wide{Hi: 1 << 62}); !ok || root != 1<<63 {
		t.Errorf("Sqrt(2^126) = %d, %v", root, ok)
	}
}

// P2.6
func TestText(t *testing.T) {
	for _, x := range samples() {
		s := Text(x)
		if s != toBig(x).String() {
			t.Errorf("Text(%v) = %s", x, s)
		}
		if y, e := Parse(s); e != api.OK || y != x {
			t.Errorf("Parse(%s) = %v, %v", s, y, e)
		}
	}
	for _, s := range []string{"", "-", "-0", "00", "007", "-01", "+1", " 1", "1 ", "1x", "--1", "1-", "x", "18446744073709551616x", strings.Repeat("9", 60) + "x"} {
		if x, e := Parse(s); e != api.ErrForm || x != (api.Wide{}) {
			t.Errorf("Parse(%q) = %v, %v", s, x, e)
		}
	}
	power := new(big.Int).Lsh(big.NewInt(1), 127)
	below := new(big.Int).Sub(new(big.Int).Neg(power), big.NewInt(1))
	for _, s := range []string{power.String(), below.String(), power.String() + "0", new(big.Int).Lsh(power, 1).String(), new(big.Int).Lsh(power, 3).String(), strings.Repeat("9", 60), "-" + strings.Repeat("9", 60)} {
		if x, e := Parse(s); e != api.ErrRange || x != (api.Wide{}) {
			t.Errorf("Parse(%s) = %v, %v", s, x, e)
		}
	}
	if s := Text(api.Wide{Hi: 1}); s != "18446744073709551616" {
		t.Errorf("2^64: %s", s)
	}
	if s := Text(api.Wide{Hi: -1}); s != "-18446744073709551616" {
		t.Errorf("-2^64: %s", s)
	}
}
