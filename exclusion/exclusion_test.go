package exclusion

import (
	"math"
	"math/big"
	"slices"
	"testing"

	"flightdeck/api"
	"flightdeck/integrity"
	"flightdeck/lsq"
)

func m(source int, a, b, z, bound int64) api.Meas {
	return api.Meas{Source: source, A: a, B: b, Z: z, Bound: bound, Weight: 1}
}

func pt(x, y int64) api.Point { return api.Point{X: x, Y: y} }

func position(source int, x, y, bound int64) []api.Meas {
	return []api.Meas{m(source, 256, 0, 256*x, 256*bound), m(source, 0, 256, 256*y, 256*bound)}
}

func three(bound int64) []api.Meas {
	return slices.Concat(position(1, 0, 0, bound), position(2, 100, 0, bound), position(3, 20, 60, bound))
}

// inequality says that the sum of c[i] * v[i] is at most the last one of c.
type inequality [4]*big.Rat

func rat(v int64) *big.Rat { return new(big.Rat).SetInt64(v) }

// eliminate removes a variable (Fourier and Motzkin).
func eliminate(l []inequality, k int) []inequality {
	var kept, up, down []inequality
	for _, x := range l {
		switch x[k].Sign() {
		case 0:
			kept = append(kept, x)
		case 1:
			up = append(up, x)
		default:
			down = append(down, x)
		}
	}
	for _, u := range up {
		for _, d := range down {
			var sum inequality
			for i := range sum {
				a := new(big.Rat).Mul(u[i], new(big.Rat).Neg(d[k]))
				sum[i] = a.Add(a, new(big.Rat).Mul(d[i], u[k]))
			}
			kept = append(kept, sum)
		}
	}
	return kept
}

// bounds returns the least and the greatest a x + b y of a region, by elimination; false if it is empty.
func bounds(l []api.Meas, a, b int64) (least, most *big.Rat, ok bool) {
	one := func(x, y, t, c int64) inequality { return inequality{rat(x), rat(y), rat(t), rat(c)} }
	system := []inequality{one(a, b, -1, 0), one(-a, -b, 1, 0)}
	for _, k := range l {
		system = append(system, one(k.A, k.B, 0, k.Z+k.Bound), one(-k.A, -k.B, 0, k.Bound-k.Z))
	}
	for _, x := range eliminate(eliminate(system, 0), 1) {
		limit := new(big.Rat)
		switch x[2].Sign() {
		case 0:
			if x[3].Sign() < 0 {
				return nil, nil, false
			}
		case 1:
			limit.Quo(x[3], x[2])
			if most == nil || limit.Cmp(most) < 0 {
				most = limit
			}
		default:
			limit.Quo(x[3], x[2])
			if least == nil || limit.Cmp(least) > 0 {
				least = limit
			}
		}
	}
	return least, most, least.Cmp(most) <= 0
}

func down(x *big.Rat) int64 { return new(big.Int).Div(x.Num(), x.Denom()).Int64() }

func up(x *big.Rat) int64 { return -down(new(big.Rat).Neg(x)) }

func parallel(l []api.Meas) bool {
	for _, x := range l {
		for _, y := range l {
			if x.A*y.B != x.B*y.A {
				return false
			}
		}
	}
	return true
}

// P44.1, P44.2, P44.3, P44.4: measurements at random, against elimination.
func TestRandom(t *testing.T) {
	seed := uint64(44)
	next := func(low, high int64) int64 {
		seed = seed*6364136223846793005 + 1442695040888963407
		return low + int64(seed>>31)%(high-low+1)
	}
	faults := map[api.Errno]int{}
	consistentOnes := 0
	for k := range 3000 {
		var l []api.Meas
		size := int64(256)
		if k%2 == 0 {
			size = 2
		}
		for range next(0, 5) {
			x := m(int(next(1, 4)), next(-size, size), next(-size, size), next(-9, 9), next(0, 6))
			if k%2 == 1 {
				x.Z, x.Bound = next(-api.MaxZ, api.MaxZ), next(0, api.MaxZ)
			}
			if x.A != 0 || x.B != 0 {
				l = append(l, x)
			}
		}
		a, b := next(-256, 256), next(-3, 3)
		ok, e := Consistent(l)
		x, f := Range(l, a, b)
		if parallel(l) {
			if ok || e != api.ErrRank || x != (api.Interval{}) || f != api.ErrRank {
				t.Fatalf("%v: %v, %v, %v, %v", l, ok, e, x, f)
			}
		} else if least, most, found := bounds(l, a, b); found {
			consistentOnes++
			if !ok || e != api.OK || x != (api.Interval{Lo: down(least), Hi: up(most)}) || f != api.OK {
				t.Fatalf("%v: %v, %v, range %v, %v, want %v to %v", l, ok, e, x, f, least, most)
			}
		} else if ok || e != api.OK || x != (api.Interval{}) || f != api.ErrNone {
			t.Fatalf("%v: %v, %v, %v, %v", l, ok, e, x, f)
		}
		checkFault(t, l, faults)
		checkDetectable(t, l)
	}
	for _, e := range []api.Errno{api.OK, api.ErrRank, api.ErrConflict, api.ErrState} {
		if faults[e] < 20 {
			t.Errorf("%v: %d", e, faults[e])
		}
	}
	if consistentOnes < 500 {
		t.Errorf("only %d are consistent", consistentOnes)
	}
}

func checkFault(t *testing.T, l []api.Meas, faults map[api.Errno]int) {
	t.Helper()
	source, e := Fault(l)
	faults[e]++
	rank := parallel(l)
	var without []int
	for _, k := range integrity.Sources(l) {
		rest := integrity.Without(l, k)
		if parallel(rest) {
			rank = true
		} else if _, _, ok := bounds(rest, 1, 0); ok {
			without = append(without, k)
		}
	}
	want, wantSource := api.OK, 0
	if rank {
		want = api.ErrRank
	} else if _, _, ok := bounds(l, 1, 0); !ok {
		switch len(without) {
		case 0:
			want = api.ErrConflict
		case 1:
			wantSource = without[0]
		default:
			want = api.ErrState
		}
	}
	if source != wantSource || e != want {
		t.Fatalf("Fault(%v) = %d, %v, want %d, %v", l, source, e, wantSource, want)
	}
}

func checkDetectable(t *testing.T, l []api.Meas) {
	t.Helper()
	for i, x := range l {
		others := integrity.Without(l, x.Source)
		got, e := Detectable(l, i)
		if parallel(others) {
			if got != 0 || e != api.ErrRank {
				t.Fatalf("Detectable(%v, %d) = %d, %v", l, i, got, e)
			}
			continue
		}
		for k := range others {
			others[k].Z, others[k].Bound = 0, 2*others[k].Bound
		}
		_, most, _ := bounds(others, x.A, x.B)
		if want := x.Bound + up(most); got != want || e != api.OK {
			t.Fatalf("Detectable(%v, %d) = %d, %v, want %d", l, i, got, e, want)
		}
	}
}

// P44.1 to P44.4: errors, and the greatest numbers.
func TestErrors(t *testing.T) {
	bad := []api.Meas{m(1, 1, 0, 0, 0), m(9, 1, 0, 0, 0)}
	for _, l := range [][]api.Meas{bad, make([]api.Meas, 17)} {
		want := lsq.Check(l)
		ok, e1 := Consistent(l)
		x, e2 := Range(l, 300, 0)
		k, e3 := Fault(l)
		d, e4 := Detectable(l, -1)
		if ok || x != (api.Interval{}) || k != 0 || d != 0 || e1 != want || e2 != want || e3 != want || e4 != want || want == api.OK {
			t.Errorf("%v, %v, %v, %v", e1, e2, e3, e4)
		}
	}
	line := []api.Meas{m(1, 1, 0, 0, 0)}
	for _, c := range [][2]int64{{257, 0}, {-257, 0}, {0, 257}, {0, math.MinInt64}} {
		if x, e := Range(line, c[0], c[1]); x != (api.Interval{}) || e != api.ErrArg {
			t.Errorf("Range of %v: %v, %v", c, x, e)
		}
	}
	for _, i := range []int{-1, 1, math.MaxInt, math.MinInt} {
		if d, e := Detectable(line, i); d != 0 || e != api.ErrArg {
			t.Errorf("Detectable %d: %d, %v", i, d, e)
		}
	}
	if _, e := Fault(nil); e != api.ErrRank {
		t.Errorf("Fault of nothing: %v", e)
	}
	if _, e := Consistent(nil); e != api.ErrRank {
		t.Errorf("Consistent of nothing: %v", e)
	}
	great := []api.Meas{m(1, 256, 255, api.MaxZ, api.MaxZ), m(2, 255, 254, -api.MaxZ, api.MaxZ)}
	least, most, _ := bounds(great, 256, -256)
	if x, e := Range(great, 256, -256); x != (api.Interval{Lo: down(least), Hi: up(most)}) || e != api.OK {
		t.Errorf("the greatest numbers: %v, %v", x, e)
	}
	// Touching regions are consistent.
	if ok, e := Consistent(slices.Concat(position(1, 0, 0, 10), position(2, 20, 20, 10))); !ok || e != api.OK {
		t.Errorf("touching: %v, %v", ok, e)
	}
	if ok, e := Consistent(slices.Concat(position(1, 0, 0, 10), position(2, 21, 20, 10))); ok || e != api.OK {
		t.Errorf("apart: %v, %v", ok, e)
	}
}

// P44.5, P44.6, P44.7
func TestNoFalseAlarm(t *testing.T) {
	seed := uint64(5)
	next := func(low, high int64) int64 {
		seed = seed*6364136223846793005 + 1442695040888963407
		return low + int64(seed>>31)%(high-low+1)
	}
	excluded, detected := 0, 0
	for range 4000 {
		p := pt(next(-500_000, 500_000), next(-500_000, 500_000))
		faulty := int(next(0, 4))
		var l []api.Meas
		for range next(5, 10) {
			x := m(int(next(1, 4)), next(-256, 256), next(-256, 256), 0, next(0, 500_000))
			if x.A == 0 && x.B == 0 {
				continue
			}
			x.Z = x.A*p.X + x.B*p.Y + next(-x.Bound, x.Bound)
			if x.Source == faulty {
				x.Z += next(-9_000_000, 9_000_000)
			}
			l = append(l, x)
		}
		k, e := Fault(l)
		if k != 0 && k != faulty || e == api.ErrConflict || faulty == 0 && (k != 0 || e != api.OK && e != api.ErrRank) {
			t.Fatalf("%v with the faulty source %d: %d, %v", l, faulty, k, e)
		}
		if k != 0 {
			excluded++
		}
		ok, rank := Consistent(l)
		for i, x := range l {
			least, e := Detectable(l, i)
			off := x.A*p.X + x.B*p.Y - x.Z
			if e == api.OK && x.Source == faulty && max(off, -off) > least {
				detected++
				if ok {
					t.Fatalf("%v: the fault of %d is not detected", l, i)
				}
			}
		}
		if faulty == 0 && rank == api.OK {
			a, b := next(-256, 256), next(-256, 256)
			whole, e := Range(l, a, b)
			if v := a*p.X + b*p.Y; e != api.OK || v < whole.Lo || v > whole.Hi {
				t.Fatalf("%v: %v is not in %v, %v", l, p, whole, e)
			}
			if part, e := Range(l[:len(l)-1], a, b); e == api.OK && (whole.Lo < part.Lo || whole.Hi > part.Hi) {
				t.Fatalf("%v: %v is not in %v", l, whole, part)
			}
		}
		if fewer, e := Consistent(l[:len(l)-1]); e == api.OK && !fewer && ok {
			t.Fatalf("%v: one more makes it consistent", l)
		}
	}
	if excluded < 300 || detected < 300 {
		t.Errorf("only %d excluded, %d detected", excluded, detected)
	}
}

// The examples of the chapter.
func TestExamples(t *testing.T) {
	if ok, e := Consistent(three(10)); ok || e != api.OK {
		t.Errorf("three sources: %v, %v", ok, e)
	}
	if k, e := Fault(three(10)); k != 0 || e != api.ErrConflict {
		t.Errorf("Fault: %d, %v", k, e)
	}
	if k, e := Fault(three(30)); k != 2 || e != api.OK {
		t.Errorf("Fault: %d, %v", k, e)
	}
	two := slices.Concat(position(1, 0, 0, 10), position(2, 100, 0, 10))
	for i := range two {
		if d, e := Detectable(two, i); d != 256*30 || e != api.OK {
			t.Errorf("Detectable %d: %d, %v", i, d, e)
		}
	}
	if x, e := Range(position(1, 7, 9, 10), 1, -2); x != (api.Interval{Lo: -41, Hi: 19}) || e != api.OK {
		t.Errorf("Range: %v, %v", x, e)
	}
}
