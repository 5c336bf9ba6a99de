package trig

import (
	"math"
	"math/big"
	"testing"

	"flightdeck/angle"
	"flightdeck/api"
)

const deg = api.Degree

// angles returns angles all around the circle, and those next to the ends of quarters and octants.
func angles(step int64) []int64 {
	var l []int64
	for a := int64(0); a < api.Circle; a += step {
		l = append(l, a)
	}
	for a := int64(-api.Circle); a <= 2*api.Circle; a += octant {
		for d := int64(-3); d <= 3; d++ {
			l = append(l, a+d)
		}
	}
	return append(l, math.MaxInt64, math.MinInt64)
}

// P7.1: the steps of the chapter for 30 degrees, and the symmetries that define the rest.
func TestSteps(t *testing.T) {
	if x := radians(30 * deg); x != 1_124_419_809 || times(x, x) != 588_744_835 {
		t.Errorf("30 degrees: t %d, u %d", x, times(x, x))
	}
	if r := series(588_744_835, [5]int64{110, 72, 42, 20, 6}); r != 2_050_695_827 {
		t.Errorf("30 degrees: r %d", r)
	}
	for _, c := range [][2]int64{{Sin(0), 0}, {Sin(api.Quarter), api.One}, {Sin(30 * deg), api.One / 2}, {Cos(60 * deg), api.One / 2}, {Sin(api.Half), 0}, {Sin(3 * api.Quarter), -api.One}, {Cos(0), api.One}, {Cos(api.Half), -api.One}, {Cos(api.Quarter), 0}} {
		if c[0] != c[1] {
			t.Errorf("%d, want %d", c[0], c[1])
		}
	}
	// At 45 degrees the sine series is taken, above it the cosine series.
	if Sin(octant) != sineSeries(octant) || Sin(octant+1) != cosineSeries(octant-1) || Cos(octant) != sineSeries(octant) || Cos(octant-1) != cosineSeries(octant-1) {
		t.Errorf("the octant")
	}
}

// bigSine computes the series of the chapter with big integers.
func bigSine(a int64) int64 {
	a = angle.Norm(a)
	if a > api.Half {
		return -bigSine(a - api.Half)
	}
	if a > api.Quarter {
		a = api.Half - a
	}
	sine := a <= octant
	steps := []int64{110, 72, 42, 20, 6}
	if !sine {
		a, steps = api.Quarter-a, []int64{90, 56, 30, 12, 2}
	}
	n := big.NewInt
	half := func(x *big.Int, d int64) *big.Int { // (x + d/2) / d
		return x.Div(x.Add(x, n(d/2)), n(d))
	}
	x := half(new(big.Int).Mul(n(a), n(6_746_518_852)), 64_800_000)
	u := half(new(big.Int).Mul(x, x), 1<<31)
	r := n(1 << 31)
	for _, d := range steps {
		r = new(big.Int).Sub(n(1<<31), half(half(new(big.Int).Mul(u, r), 1<<31), d))
	}
	if sine {
		r = half(new(big.Int).Mul(x, r), 1<<31)
	}
	return half(r, 2).Int64()
}

// P7.1
func TestSeries(t *testing.T) {
	for _, a := range angles(9973 * 7) {
		if got, want := Sin(a), bigSine(a); got != want {
			t.Errorf("Sin(%d) = %d, want %d", a, got, want)
		}
		if got, want := Cos(a), bigSine(angle.Turn(a, api.Quarter)); got != want {
			t.Errorf("Cos(%d) = %d, want %d", a, got, want)
		}
	}
}

// P7.2
func TestError(t *testing.T) {
	for _, a := range angles(997) {
		real := float64(angle.Norm(a)) * math.Pi / api.Half
		for _, c := range []struct {
			v    int64
			in   api.Interval
			real float64
		}{{Sin(a), SinIn(a), math.Sin(real) * api.One}, {Cos(a), CosIn(a), math.Cos(real) * api.One}} {
			if math.Abs(float64(c.v)-c.real) > Error || c.in != (api.Interval{Lo: c.v - 2, Hi: c.v + 2}) {
				t.Errorf("angle %d: %d %v, real %f", a, c.v, c.in, c.real)
			}
		}
	}
}

// P7.3
func TestSymmetry(t *testing.T) {
	for _, a := range angles(99_991) {
		b := angle.Norm(a)
		if Sin(-b) != -Sin(b) || Sin(api.Half-b) != Sin(b) || Sin(a) != Sin(b) || Cos(a) != Cos(b) || Sin(b+3*api.Circle) != Sin(b) {
			t.Errorf("symmetry at %d", a)
		}
	}
	for a := int64(0); a < octant; a++ { // below 0 it is the mirror image
		if Sin(a) >= Sin(a+1) {
			t.Fatalf("the sine does not rise at %d", a)
		}
	}
	last := int64(-api.One)
	for a := int64(-api.Quarter); a <= api.Quarter; a += 11 {
		if Sin(a) < last {
			t.Fatalf("the sine falls at %d", a)
		}
		last = Sin(a)
	}
}

// P7.4
func TestAtan2(t *testing.T) {
	l := []int64{0, 1, -1, 2, -3, 5, 1000, -999, 123_456_789, -api.One, Max - 1, Max, -Max}
	for _, y := range l {
		for _, x := range l {
			got, e := Atan2(y, x)
			if x == 0 && y == 0 {
				if got != 0 || e != api.ErrArg {
					t.Errorf("Atan2(0, 0) = %d, %v", got, e)
				}
				continue
			}
			m, n := max(x, -x), max(y, -y)
			if n > m {
				m, n = n, m
			}
			// The angle within the octant, by its definition.
			c := got % api.Quarter
			if inner := angle.Norm(got) % api.Half; inner > api.Quarter {
				c = api.Half - inner
			} else {
				c = inner
			}
			if max(y, -y) > max(x, -x) {
				c = api.Quarter - c
			}
			if e != api.OK || got < 0 || got >= api.Circle || c < 0 || c > octant || Sin(c)*m > Cos(c)*n || c < octant && Sin(c+1)*m <= Cos(c+1)*n {
				t.Errorf("Atan2(%d, %d) = %d, %v", y, x, got, e)
			}
			real := math.Atan2(float64(y), float64(x)) * api.Half / math.Pi
			if d := angle.Diff(int64(math.Floor(real)), got); d < -2 || d > 2 {
				t.Errorf("Atan2(%d, %d) = %d, real %f", y, x, got, real)
			}
		}
		for _, big := range []int64{Max + 1, -Max - 1, math.MaxInt64, math.MinInt64} {
			if got, e := Atan2(y, big); got != 0 || e != api.ErrRange {
				t.Errorf("Atan2(%d, %d) = %d, %v", y, big, got, e)
			}
			if got, e := Atan2(big, y); got != 0 || e != api.ErrRange {
				t.Errorf("Atan2(%d, %d) = %d, %v", big, y, got, e)
			}
		}
	}
	for _, c := range [][3]int64{{1, 1, 45 * deg}, {-1, 0, 270 * deg}, {0, -5, 180 * deg}, {0, 5, 0}, {5, 0, 90 * deg}, {1, -1, 135 * deg}, {-1, -1, 225 * deg}, {-1, 1, 315 * deg}} {
		if got, e := Atan2(c[0], c[1]); got != c[2] || e != api.OK {
			t.Errorf("Atan2(%d, %d) = %d, %v", c[0], c[1], got, e)
		}
	}
}

// P7.5
func TestAsin(t *testing.T) {
	for _, r := range []int64{1, 2, 3, 1000, api.One, Max} {
		for _, y := range []int64{0, 1, r / 3, r / 2, r - 1, r} {
			if y > r || y < 0 {
				continue
			}
			c, e := Asin(y, r)
			if e != api.OK || c < 0 || c > api.Quarter || Sin(c)*r > api.One*y || c < api.Quarter && Sin(c+1)*r <= api.One*y {
				t.Errorf("Asin(%d, %d) = %d, %v", y, r, c, e)
			}
			if d, e := Asin(-y, r); d != -c || e != api.OK {
				t.Errorf("Asin(%d, %d) = %d, %v", -y, r, d, e)
			}
		}
		for _, y := range []int64{r + 1, -r - 1, math.MaxInt64, math.MinInt64} {
			if c, e := Asin(y, r); c != 0 || e != api.ErrRange {
				t.Errorf("Asin(%d, %d) = %d, %v", y, r, c, e)
			}
		}
	}
	for _, r := range []int64{0, -1, math.MinInt64} {
		if c, e := Asin(5, r); c != 0 || e != api.ErrArg {
			t.Errorf("Asin(5, %d) = %d, %v", r, c, e)
		}
	}
	for _, r := range []int64{Max + 1, math.MaxInt64} {
		if c, e := Asin(0, r); c != 0 || e != api.ErrRange {
			t.Errorf("Asin(0, %d) = %d, %v", r, c, e)
		}
	}
	if c, e := Asin(1, 2); c != 30*deg || e != api.OK {
		t.Errorf("Asin(1, 2) = %d, %v", c, e)
	}
}

// P7.6
func TestHypot(t *testing.T) {
	for _, c := range [][3]int64{{3, 4, 5}, {1, 1, 1}, {0, 0, 0}, {-3, 4, 5}, {-6, -8, 10}, {Max, 0, Max}, {2, 2, 2}, {5, 5, 7}} {
		if h, e := Hypot(c[0], c[1]); h != c[2] || e != api.OK {
			t.Errorf("Hypot(%d, %d) = %d, %v", c[0], c[1], h, e)
		}
	}
	s := new(big.Int).Mul(big.NewInt(Max), big.NewInt(Max))
	s.Sqrt(s.Lsh(s, 1))
	if h, e := Hypot(Max, -Max); h != s.Int64() || e != api.OK {
		t.Errorf("Hypot(Max, Max) = %d, %v, want %v", h, e, s)
	}
	for _, x := range []int64{Max + 1, -Max - 1, math.MaxInt64, math.MinInt64} {
		if h, e := Hypot(x, 0); h != 0 || e != api.ErrRange {
			t.Errorf("Hypot(%d, 0) = %d, %v", x, h, e)
		}
		if h, e := Hypot(0, x); h != 0 || e != api.ErrRange {
			t.Errorf("Hypot(0, %d) = %d, %v", x, h, e)
		}
	}
}

// P7.7
func TestInverse(t *testing.T) {
	for _, c := range angles(4999) {
		if got, e := Atan2(Sin(c), Cos(c)); got != angle.Norm(c) || e != api.OK {
			t.Errorf("Atan2 of the sine and cosine of %d = %d, %v", c, got, e)
		}
	}
	for c := int64(-octant); c <= octant; c += 1999 {
		if got, e := Asin(Sin(c), api.One); got != c || e != api.OK {
			t.Errorf("Asin of the sine of %d = %d, %v", c, got, e)
		}
	}
	for _, y := range []int64{1, -7, 12_345, Max} {
		for _, x := range []int64{1, 3, -999, -Max} {
			a, _ := Atan2(y, x)
			down, _ := Atan2(-y, x)
			left, _ := Atan2(y, -x)
			if down != angle.Norm(-a) || left != angle.Norm(api.Half-a) {
				t.Errorf("mirrors of {%d, %d}", x, y)
			}
		}
	}
}
