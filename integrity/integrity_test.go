package integrity

import (
	"math/big"
	"slices"
	"testing"

	"flightdeck/api"
	"flightdeck/lsq"
)

func m(source int, a, b, z, bound, weight int64) api.Meas {
	return api.Meas{Source: source, A: a, B: b, Z: z, Bound: bound, Weight: weight}
}

func pt(x, y int64) api.Point { return api.Point{X: x, Y: y} }

// position has the two measurements of a position source.
func position(source int, x, y, bound int64) []api.Meas {
	return []api.Meas{m(source, 256, 0, 256*x, 256*bound, 1), m(source, 0, 256, 256*y, 256*bound, 1)}
}

func box(x, y, wide, high int64) api.Box { return api.Box{Center: pt(x, y), X: wide, Y: high} }

// three is the chapter's example.
func three() []api.Meas {
	return slices.Concat(position(1, 0, 0, 10), position(2, 100, 0, 10), position(3, 20, 60, 10))
}

// P43.1
func TestSources(t *testing.T) {
	l := []api.Meas{m(3, 1, 0, 0, 0, 1), m(-7, 0, 0, 0, 0, 0), m(3, 9, 9, 9, 9, 9), m(99, 1, 0, 0, 0, 1), m(1, 1, 0, 0, 0, 1)}
	keep := slices.Clone(l)
	if got := Sources(l); !slices.Equal(got, []int{-7, 1, 3, 99}) || len(Sources(nil)) != 0 {
		t.Errorf("Sources: %v", got)
	}
	got := Without(l, 3)
	if !slices.Equal(got, []api.Meas{l[1], l[3], l[4]}) || len(Without(nil, 3)) != 0 {
		t.Errorf("Without: %v", got)
	}
	got[0].A = 5
	if got := Without(l, 42); !slices.Equal(got, keep) || !slices.Equal(l, keep) {
		t.Errorf("Without nothing: %v", got)
	}
}

func r(v int64) *big.Rat { return new(big.Rat).SetInt64(v) }

func mul(l ...*big.Rat) *big.Rat {
	p := r(1)
	for _, x := range l {
		p.Mul(p, x)
	}
	return p
}

func sub(x, y *big.Rat) *big.Rat { return new(big.Rat).Sub(x, y) }

func add(x, y *big.Rat) *big.Rat { return new(big.Rat).Add(x, y) }

func abs(x *big.Rat) *big.Rat { return new(big.Rat).Abs(x) }

// ceil rounds up; -1 stands for a number that is too great.
func ceil(x *big.Rat) int64 {
	q := new(big.Int).Neg(x.Num())
	q.Div(q, x.Denom()).Neg(q)
	if q.Cmp(big.NewInt(api.MaxDist)) > 0 {
		return -1
	}
	return q.Int64()
}

// exact computes the solution and the noise as rational numbers; false if there is none.
func exact(l []api.Meas) (x, y, noiseX, noiseY *big.Rat, ok bool) {
	xx, xy, yy, xz, yz := r(0), r(0), r(0), r(0), r(0)
	for _, k := range l {
		w, a, b, z := r(k.Weight), r(k.A), r(k.B), r(k.Z)
		xx, xy, yy = add(xx, mul(w, a, a)), add(xy, mul(w, a, b)), add(yy, mul(w, b, b))
		xz, yz = add(xz, mul(w, a, z)), add(yz, mul(w, b, z))
	}
	det := sub(mul(xx, yy), mul(xy, xy))
	if det.Sign() == 0 {
		return nil, nil, nil, nil, false
	}
	inv := new(big.Rat).Inv(det)
	noiseX, noiseY = r(0), r(0)
	for _, k := range l {
		w, a, b := r(k.Weight), r(k.A), r(k.B)
		noiseX = add(noiseX, mul(r(k.Bound), abs(mul(w, sub(mul(yy, a), mul(xy, b)), inv))))
		noiseY = add(noiseY, mul(r(k.Bound), abs(mul(w, sub(mul(xx, b), mul(xy, a)), inv))))
	}
	return mul(sub(mul(yy, xz), mul(xy, yz)), inv), mul(sub(mul(xx, yz), mul(xy, xz)), inv), noiseX, noiseY, true
}

// pair tells two numbers, or ErrRange if one of them is too great.
func pair(x, y int64) (int64, int64, api.Errno) {
	if x < 0 || y < 0 {
		return 0, 0, api.ErrRange
	}
	return x, y, api.OK
}

func check(t *testing.T, l []api.Meas) api.Errno {
	t.Helper()
	s, e := lsq.Solve(l)
	nx, ny, e1 := Noise(l)
	acc, e2 := Accuracy(l)
	level, e3 := Level(l)
	_, _, e4 := Separation(l, 77)
	if e != api.OK {
		if nx != 0 || ny != 0 || acc != (api.Box{}) || level != (api.Box{}) || e1 != e || e2 != e || e3 != e || e4 != e {
			t.Fatalf("%v: %v, %v, %v, %v, want %v", l, e1, e2, e3, e4, e)
		}
		return e
	}
	if e4 != api.ErrNone {
		t.Fatalf("a source that is not there: %v", e4)
	}
	px, py := r(s.Point.X), r(s.Point.Y)
	x, y, noiseX, noiseY, _ := exact(l)
	wx, wy, want := pair(ceil(noiseX), ceil(noiseY))
	if nx != wx || ny != wy || e1 != want {
		t.Fatalf("%v: Noise %d, %d, %v, want %d, %d, %v", l, nx, ny, e1, wx, wy, want)
	}
	wx, wy, want = pair(ceil(add(abs(sub(px, x)), noiseX)), ceil(add(abs(sub(py, y)), noiseY)))
	wantBox := api.Box{Center: s.Point, X: wx, Y: wy}
	if want != api.OK {
		wantBox = api.Box{}
	}
	if acc != wantBox || e2 != want {
		t.Fatalf("%v: Accuracy %v, %v, want %v, %v", l, acc, e2, wantBox, want)
	}
	wantBox, want = api.Box{Center: s.Point}, api.OK
	for _, k := range Sources(l) {
		sx, sy, e := Separation(l, k)
		x, y, noiseX, noiseY, ok := exact(Without(l, k))
		if !ok {
			want = api.ErrRank
			if sx != 0 || sy != 0 || e != api.ErrRank {
				t.Fatalf("%v: Separation %d: %d, %d, %v", l, k, sx, sy, e)
			}
			continue
		}
		wx, wy, f := pair(ceil(abs(sub(px, x))), ceil(abs(sub(py, y))))
		if sx != wx || sy != wy || e != f {
			t.Fatalf("%v: Separation %d: %d, %d, %v, want %d, %d, %v", l, k, sx, sy, e, wx, wy, f)
		}
		wx, wy, f = pair(ceil(add(abs(sub(px, x)), noiseX)), ceil(add(abs(sub(py, y)), noiseY)))
		wantBox.X, wantBox.Y = max(wantBox.X, wx), max(wantBox.Y, wy)
		if want == api.OK {
			want = f
		}
	}
	if want != api.OK {
		wantBox = api.Box{}
	}
	if level != wantBox || e3 != want {
		t.Fatalf("%v: Level %v, %v, want %v, %v", l, level, e3, wantBox, want)
	}
	return e3
}

// P43.2 to P43.5: measurements at random, against rational numbers.
func TestRandom(t *testing.T) {
	seed := uint64(43)
	next := func(low, high int64) int64 {
		seed = seed*6364136223846793005 + 1442695040888963407
		return low + int64(seed>>31)%(high-low+1)
	}
	counts := map[api.Errno]int{}
	for k := range 4000 {
		var l []api.Meas
		sources := next(1, 6)
		for range next(0, 12) {
			x := m(int(next(1, sources)), next(-256, 256), next(-256, 256), next(-300_000_000, 300_000_000), next(0, 200_000_000), next(1, 16))
			switch k % 5 {
			case 0:
				x.Z, x.Bound = next(-api.MaxZ, api.MaxZ), next(0, api.MaxZ)
			case 1:
				x.A, x.B, x.Bound = next(0, 1)*256, next(0, 1)*256, next(0, 5000)
			case 2:
				x.B = x.A
			case 3:
				x.A, x.B = 256, next(0, 5)/5
				x.Bound = api.MaxZ
			}
			if x.A != 0 || x.B != 0 {
				l = append(l, x)
			}
		}
		counts[check(t, l)]++
	}
	for _, e := range []api.Errno{api.OK, api.ErrRank, api.ErrRange} {
		if counts[e] < 100 {
			t.Errorf("%v: %d", e, counts[e])
		}
	}
	check(t, []api.Meas{m(0, 1, 0, 0, 0, 1)})
	check(t, make([]api.Meas, 17))
}

// The examples of the chapter.
func TestExamples(t *testing.T) {
	l := three()
	if b, e := Level(l); b != box(40, 20, 40, 30) || e != api.OK {
		t.Errorf("Level: %v, %v", b, e)
	}
	if b, e := Accuracy(l); b != box(40, 20, 10, 10) || e != api.OK {
		t.Errorf("Accuracy: %v, %v", b, e)
	}
	if x, y, e := Separation(l, 2); x != 30 || y != 10 || e != api.OK {
		t.Errorf("Separation: %d, %d, %v", x, y, e)
	}
	one := l[:2]
	if _, e := Level(one); e != api.ErrRank {
		t.Errorf("Level of one source: %v", e)
	}
	if x, y, e := Noise(one); x != 10 || y != 10 || e != api.OK {
		t.Errorf("Noise: %d, %d, %v", x, y, e)
	}
	if b, e := Accuracy(one); b != box(0, 0, 10, 10) || e != api.OK {
		t.Errorf("Accuracy: %v, %v", b, e)
	}
	if x, y, e := Separation(one, 1); x != 0 || y != 0 || e != api.ErrRank {
		t.Errorf("Separation: %d, %d, %v", x, y, e)
	}
	if x, y, e := Separation(one, 2); x != 0 || y != 0 || e != api.ErrNone {
		t.Errorf("Separation: %d, %d, %v", x, y, e)
	}
}

func inside(b api.Box, p api.Point) bool {
	return max(p.X-b.Center.X, b.Center.X-p.X) <= b.X && max(p.Y-b.Center.Y, b.Center.Y-p.Y) <= b.Y
}

// P43.6, P43.7
func TestProtection(t *testing.T) {
	seed := uint64(7)
	next := func(low, high int64) int64 {
		seed = seed*6364136223846793005 + 1442695040888963407
		return low + int64(seed>>31)%(high-low+1)
	}
	levels, accuracies := 0, 0
	for range 6000 {
		p := pt(next(-500_000, 500_000), next(-500_000, 500_000))
		faulty := int(next(0, 4))
		var l []api.Meas
		for range next(4, 12) {
			x := m(int(next(1, 4)), next(-256, 256), next(-256, 256), 0, next(0, 500_000), next(1, 16))
			if x.A == 0 && x.B == 0 {
				continue
			}
			x.Z = x.A*p.X + x.B*p.Y + next(-x.Bound, x.Bound)
			if x.Source == faulty {
				x.Z += next(-100_000_000, 100_000_000)
			}
			l = append(l, x)
		}
		if b, e := Level(l); e == api.OK {
			levels++
			if !inside(b, p) {
				t.Fatalf("%v with the faulty source %d: %v is not in %v", l, faulty, p, b)
			}
			wider, shifted := slices.Clone(l), slices.Clone(l)
			for i := range l {
				wider[i].Bound += 1000
				shifted[i].Z += l[i].A*70 - l[i].B*90
			}
			if w, e := Level(wider); e == api.OK && (w.X < b.X || w.Y < b.Y) {
				t.Fatalf("%v becomes %v with greater bounds", b, w)
			}
			if s, e := Level(shifted); e == api.OK && s != box(b.Center.X+70, b.Center.Y-90, b.X, b.Y) {
				t.Fatalf("%v becomes %v, shifted", b, s)
			}
		}
		if b, e := Accuracy(l); e == api.OK && faulty == 0 {
			accuracies++
			if !inside(b, p) {
				t.Fatalf("%v: %v is not in %v", l, p, b)
			}
		}
	}
	if levels < 1000 || accuracies < 500 {
		t.Errorf("only %d levels, %d accuracies", levels, accuracies)
	}
}
