package lsq

import (
	"math"
	"math/big"
	"slices"
	"testing"

	"flightdeck/api"
	"flightdeck/wide"
)

func m(source int, a, b, z, bound, weight int64) api.Meas {
	return api.Meas{Source: source, A: a, B: b, Z: z, Bound: bound, Weight: weight}
}

func pt(x, y int64) api.Point { return api.Point{X: x, Y: y} }

func good() api.Meas { return m(1, 256, -256, 5, 7, 1) }

// P42.1
func TestCheck(t *testing.T) {
	for i, c := range []struct {
		m    api.Meas
		want bool
	}{
		{good(), true}, {m(8, -256, 0, api.MaxZ, api.MaxZ, 16), true}, {m(1, 0, 1, -api.MaxZ, 0, 1), true},
		{m(0, 1, 1, 0, 0, 1), false}, {m(9, 1, 1, 0, 0, 1), false}, {m(1, 257, 1, 0, 0, 1), false}, {m(1, -257, 1, 0, 0, 1), false}, {m(1, 1, 257, 0, 0, 1), false}, {m(1, 1, -257, 0, 0, 1), false}, {m(1, 0, 0, 0, 0, 1), false},
		{m(1, 1, 1, api.MaxZ+1, 0, 1), false}, {m(1, 1, 1, -api.MaxZ-1, 0, 1), false}, {m(1, 1, 1, 0, -1, 1), false}, {m(1, 1, 1, 0, api.MaxZ+1, 1), false}, {m(1, 1, 1, 0, 0, 0), false}, {m(1, 1, 1, 0, 0, 17), false}, {m(1, math.MinInt64, math.MaxInt64, math.MinInt64, math.MaxInt64, 5), false},
	} {
		l := []api.Meas{good(), c.m, good()}
		want := api.ErrArg
		if c.want {
			want = api.OK
		}
		if e := Check(l); e != want {
			t.Errorf("case %d: %v", i, e)
		}
		if c.want {
			continue
		}
		n, e1 := Normal(l)
		s, e2 := Solve(l)
		r, e3 := Residual(l, pt(2_000_001, 0))
		num, den, e4 := Least(l)
		if n != (api.Normal{}) || s != (api.Solution{}) || r != (api.Wide{}) || num != (api.Wide{}) || den != 0 || e1 != want || e2 != want || e3 != want || e4 != want || Holds(c.m, pt(0, 0)) {
			t.Errorf("case %d: %v, %v, %v, %v", i, e1, e2, e3, e4)
		}
	}
	if Check(slices.Repeat([]api.Meas{good()}, 16)) != api.OK || Check(slices.Repeat([]api.Meas{{}}, 17)) != api.ErrLimit || Check(nil) != api.OK {
		t.Errorf("the number of measurements")
	}
}

func toBig(x api.Wide) *big.Int {
	b, _ := new(big.Int).SetString(wide.Text(x), 10)
	return b
}

func n(v int64) *big.Int { return big.NewInt(v) }

func mul(l ...*big.Int) *big.Int {
	p := n(1)
	for _, x := range l {
		p.Mul(p, x)
	}
	return p
}

// normal computes the coefficients with big integers: XX, XY, YY, XZ, YZ, and the sum of the weighted squares of Z.
func normal(l []api.Meas) (c [6]*big.Int) {
	for i := range c {
		c[i] = n(0)
	}
	for _, x := range l {
		w, a, b, z := n(x.Weight), n(x.A), n(x.B), n(x.Z)
		for i, p := range []*big.Int{mul(w, a, a), mul(w, a, b), mul(w, b, b), mul(w, a, z), mul(w, b, z), mul(w, z, z)} {
			c[i].Add(c[i], p)
		}
	}
	return c
}

func sub(x, y *big.Int) *big.Int { return new(big.Int).Sub(x, y) }

// rounded is the nearest integer to x / d, halfway up.
func rounded(x, d *big.Int) *big.Int {
	num := new(big.Int).Add(new(big.Int).Lsh(x, 1), d)
	return num.Div(num, new(big.Int).Lsh(d, 1))
}

// P42.2 to P42.5, P42.7
func TestRandom(t *testing.T) {
	seed := uint64(42)
	next := func(low, high int64) int64 {
		seed = seed*6364136223846793005 + 1442695040888963407
		return low + int64(seed>>31)%(high-low+1)
	}
	solved, rank, out := 0, 0, 0
	for k := range 6000 {
		var l []api.Meas
		for range next(0, 16) {
			x := m(int(next(1, 8)), next(-256, 256), next(-256, 256), next(-api.MaxZ, api.MaxZ), next(0, api.MaxZ), next(1, 16))
			switch k % 4 {
			case 0:
				x.Z = next(-200_000_000, 200_000_000)
			case 1: // parallel
				x.A, x.B = next(1, 85)*3, 0
				x.B = x.A
			case 2: // the extremes
				x.A, x.B, x.Weight = 256, next(-1, 1)*256, 16
				x.Z = api.MaxZ
			}
			if x.A != 0 || x.B != 0 {
				l = append(l, x)
			}
		}
		c := normal(l)
		got, e := Normal(l)
		if e != api.OK || n(got.XX).Cmp(c[0]) != 0 || n(got.XY).Cmp(c[1]) != 0 || n(got.YY).Cmp(c[2]) != 0 || n(got.XZ).Cmp(c[3]) != 0 || n(got.YZ).Cmp(c[4]) != 0 {
			t.Fatalf("Normal(%v) = %v, %v", l, got, e)
		}
		det := sub(mul(c[0], c[2]), mul(c[1], c[1]))
		s, e := Solve(l)
		num, den, f := Least(l)
		if e != f {
			t.Fatalf("Solve %v, Least %v", e, f)
		}
		if det.Sign() == 0 {
			rank++
			if s != (api.Solution{}) || e != api.ErrRank || num != (api.Wide{}) || den != 0 {
				t.Fatalf("Solve(%v) = %v, %v", l, s, e)
			}
			continue
		}
		x, y := sub(mul(c[2], c[3]), mul(c[1], c[4])), sub(mul(c[0], c[4]), mul(c[1], c[3]))
		px, py := rounded(x, det), rounded(y, det)
		if px.CmpAbs(n(2_000_000)) > 0 || py.CmpAbs(n(2_000_000)) > 0 {
			out++
			if s != (api.Solution{}) || e != api.ErrRange || num != (api.Wide{}) || den != 0 {
				t.Fatalf("Solve(%v) = %v, %v", l, s, e)
			}
			continue
		}
		solved++
		if e != api.OK || toBig(s.X).Cmp(x) != 0 || toBig(s.Y).Cmp(y) != 0 || n(s.Det).Cmp(det) != 0 || s.Point != pt(px.Int64(), py.Int64()) {
			t.Fatalf("Solve(%v) = %v, %v", l, s, e)
		}
		wantNum := sub(sub(mul(det, c[5]), mul(c[3], x)), mul(c[4], y))
		if toBig(num).Cmp(wantNum) != 0 || den != s.Det {
			t.Fatalf("Least(%v) = %v, %d", l, num, den)
		}
		for _, p := range []api.Point{s.Point, pt(0, 0), pt(s.Point.X+1, s.Point.Y), pt(-2_000_000, 2_000_000)} {
			r, e := Residual(l, p)
			want := n(0)
			for _, x := range l {
				d := n(x.A*p.X + x.B*p.Y - x.Z)
				want.Add(want, mul(n(x.Weight), d, d))
			}
			if p.X <= 2_000_000 && (e != api.OK || toBig(r).Cmp(want) != 0 || mul(want, det).Cmp(wantNum) < 0) {
				t.Fatalf("Residual(%v, %v) = %v, %v", l, p, r, e)
			}
		}
		slices.Reverse(l)
		if again, _ := Solve(l); again != s {
			t.Fatalf("another order: %v", again)
		}
	}
	if solved < 500 || rank < 500 || out < 500 {
		t.Errorf("%d solved, %d without rank, %d out of range", solved, rank, out)
	}
}

// P42.7: measurements that hold exactly.
func TestExact(t *testing.T) {
	for i := range int64(300) {
		p := pt(i*7919%4_000_001-2_000_000, i*104_729%4_000_001-2_000_000)
		var l []api.Meas
		for k := range int64(5) {
			a, b := (i*31+k*77)%513-256, (i*17+k*k*91)%513-256
			if a != 0 || b != 0 {
				l = append(l, m(1, a, b, a*p.X+b*p.Y, 0, 1+k))
			}
		}
		s, e := Solve(l)
		num, _, _ := Least(l)
		if e != api.ErrRank && (e != api.OK || s.Point != p || num != (api.Wide{})) {
			t.Errorf("%v: %v, %v, %v", p, s, num, e)
		}
	}
}

// P42.6
func TestHolds(t *testing.T) {
	for i, c := range []struct {
		m    api.Meas
		p    api.Point
		want bool
	}{
		{m(1, 2, -3, 100, 5, 1), pt(50, 0), true}, {m(1, 2, -3, 100, 5, 1), pt(52, 0), true}, {m(1, 2, -3, 100, 5, 1), pt(53, 0), false}, {m(1, 2, -3, 100, 5, 1), pt(46, -1), true}, {m(1, 2, -3, 100, 5, 1), pt(48, 0), true}, {m(1, 2, -3, 100, 5, 1), pt(47, 0), false}, {m(1, 2, -3, 100, 5, 1), pt(49, 1), true}, {m(1, 2, -3, 100, 5, 1), pt(48, 1), false},
		{m(1, 1, 0, 2_000_001, 5, 1), pt(2_000_001, 0), false}, {m(0, 1, 0, 0, 5, 1), pt(0, 0), false}, {m(1, 256, 256, -api.MaxZ, api.MaxZ, 1), pt(-2_000_000, -2_000_000), true},
	} {
		if Holds(c.m, c.p) != c.want {
			t.Errorf("case %d", i)
		}
	}
	if _, e := Residual([]api.Meas{good()}, pt(2_000_001, 0)); e != api.ErrArg {
		t.Errorf("Residual of a point that is not valid: %v", e)
	}
	if r, e := Residual(nil, pt(0, 0)); r != (api.Wide{}) || e != api.OK {
		t.Errorf("Residual of nothing: %v, %v", r, e)
	}
}

// The examples of the chapter.
func TestExamples(t *testing.T) {
	l := []api.Meas{m(1, 256, 0, 25_600, 0, 1), m(1, 0, 256, 51_200, 0, 1)}
	s, e := Solve(l)
	num, den, _ := Least(l)
	if s.X != wide.Of(256*256*256*25_600) || s.Det != 1<<32 || s.Point != pt(100, 200) || num != (api.Wide{}) || den != 1<<32 || e != api.OK {
		t.Errorf("%v, %v, %d, %v", s, num, den, e)
	}
	l = []api.Meas{m(1, 1, 0, 10, 0, 1), m(2, 1, 0, 20, 0, 3), m(3, 0, 1, 0, 0, 1)}
	s, e = Solve(l)
	num, den, _ = Least(l)
	if s.X != wide.Of(70) || s.Det != 4 || s.Point != pt(18, 0) || num != wide.Of(300) || den != 4 || e != api.OK {
		t.Errorf("%v, %v, %d, %v", s, num, den, e)
	}
	if s, e := Solve([]api.Meas{m(1, 1, 2, 0, 0, 1), m(2, -2, -4, 0, 0, 1)}); s != (api.Solution{}) || e != api.ErrRank {
		t.Errorf("%v, %v", s, e)
	}
	if _, e := Solve(nil); e != api.ErrRank {
		t.Errorf("no measurement: %v", e)
	}
}
