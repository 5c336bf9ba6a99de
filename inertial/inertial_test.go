package inertial

import (
	"math"
	"testing"

	"flightdeck/api"
)

func box(x, y, wide, high int64) api.Box {
	return api.Box{Center: api.Point{X: x, Y: y}, X: wide, Y: high}
}

func v(east, north int64) api.Velocity { return api.Velocity{East: east, North: north} }

func bad() []api.Box {
	return []api.Box{box(2_000_001, 0, 0, 0), box(0, -2_000_001, 0, 0), box(0, 0, -1, 0), box(0, 0, 0, -1), box(0, 0, 2_000_001, 0), box(0, 0, 0, 2_000_001), box(math.MinInt64, math.MaxInt64, math.MaxInt64, math.MinInt64)}
}

// P45.1
func TestValid(t *testing.T) {
	for _, b := range bad() {
		c, e1 := Coast(b, v(9999, 0), -1, -1)
		m, e2 := Merge(b, box(0, 0, 5, 5))
		n, e3 := Merge(box(0, 0, 5, 5), b)
		r, e4 := Reach(b, -1, -1)
		if Valid(b) || Within(b, math.MaxInt64) || c != (api.Box{}) || m != (api.Box{}) || n != (api.Box{}) || r != 0 || e1 != api.ErrArg || e2 != api.ErrArg || e3 != api.ErrArg || e4 != api.ErrArg {
			t.Errorf("%v: %v, %v, %v, %v", b, e1, e2, e3, e4)
		}
	}
	for _, b := range []api.Box{{}, box(2_000_000, -2_000_000, 2_000_000, 2_000_000)} {
		if !Valid(b) {
			t.Errorf("%v is valid", b)
		}
	}
}

// P45.2
func TestCoast(t *testing.T) {
	for i, c := range []struct {
		b            api.Box
		v            api.Velocity
		drift, ticks int64
		want         api.Box
		e            api.Errno
	}{
		{box(0, 0, 10, 20), v(300, -400), 2, 5, box(1500, -2000, 20, 30), api.OK},
		{box(7, 8, 10, 20), v(2000, -2000), 1000, 0, box(7, 8, 10, 20), api.OK},
		{box(0, 0, 0, 0), v(13, 0), 13, 144_000, box(1_872_000, 0, 1_872_000, 1_872_000), api.OK},
		{box(0, 0, 0, 0), v(14, 0), 0, 144_000, box(0, 0, 0, 0), api.ErrRange},
		{box(0, 0, 0, 0), v(0, 0), 14, 144_000, box(0, 0, 0, 0), api.ErrRange},
		{box(0, 0, 0, 2_000_000), v(0, 0), 1, 1, box(0, 0, 0, 0), api.ErrRange},
		{box(0, 0, 0, 0), v(2001, 0), 0, 0, box(0, 0, 0, 0), api.ErrRange}, {box(0, 0, 0, 0), v(0, -2001), 0, 0, box(0, 0, 0, 0), api.ErrRange}, {box(0, 0, 0, 0), v(0, 0), -1, 0, box(0, 0, 0, 0), api.ErrRange}, {box(0, 0, 0, 0), v(0, 0), 1001, 0, box(0, 0, 0, 0), api.ErrRange}, {box(0, 0, 0, 0), v(0, 0), 0, -1, box(0, 0, 0, 0), api.ErrRange}, {box(0, 0, 0, 0), v(0, 0), 0, 144_001, box(0, 0, 0, 0), api.ErrRange}, {box(0, 0, 0, 0), v(math.MinInt64, 0), math.MaxInt64, math.MaxInt64, box(0, 0, 0, 0), api.ErrRange},
	} {
		if got, e := Coast(c.b, c.v, c.drift, c.ticks); got != c.want || e != c.e {
			t.Errorf("case %d: %v, %v", i, got, e)
		}
	}
}

func inside(b api.Box, p api.Point) bool {
	return max(p.X-b.Center.X, b.Center.X-p.X) <= b.X && max(p.Y-b.Center.Y, b.Center.Y-p.Y) <= b.Y
}

// P45.3
func TestCoastContains(t *testing.T) {
	b, vel := box(100, -50, 30, 7), v(251, -99)
	for ticks := int64(0); ticks < 30; ticks++ {
		after, _ := Coast(b, vel, 3, ticks)
		for _, corner := range []int64{-1, 1} {
			p := api.Point{X: 100 + corner*30 + ticks*(251+corner*3), Y: -50 + corner*7 + ticks*(-99+corner*3)}
			if !inside(after, p) {
				t.Errorf("%v is not in %v", p, after)
			}
		}
		for first := int64(0); first <= ticks; first++ {
			half, _ := Coast(b, vel, 3, first)
			if twice, e := Coast(half, vel, 3, ticks-first); twice != after || e != api.OK {
				t.Errorf("%d and %d ticks: %v, %v", first, ticks-first, twice, e)
			}
		}
	}
}

// P45.4
func TestMerge(t *testing.T) {
	for i, c := range []struct {
		a, b, want api.Box
		e          api.Errno
	}{
		{box(0, 0, 10, 10), box(15, 0, 10, 30), box(7, 0, 3, 10), api.OK},
		{box(0, 0, 10, 10), box(20, 0, 10, 30), box(10, 0, 0, 10), api.OK},
		{box(0, 0, 10, 10), box(21, 0, 10, 30), box(0, 0, 0, 0), api.ErrConflict},
		{box(0, 0, 10, 10), box(0, -21, 10, 10), box(0, 0, 0, 0), api.ErrConflict},
		{box(-1, -1, 0, 3), box(-2, 5, 9, 4), box(-1, 1, 0, 1), api.OK},
		{box(0, -5, 1, 2), box(0, -6, 1, 2), box(0, -6, 1, 2), api.OK},
	} {
		for _, k := range [][2]api.Box{{c.a, c.b}, {c.b, c.a}} {
			if got, e := Merge(k[0], k[1]); got != c.want || e != c.e {
				t.Errorf("case %d: %v, %v", i, got, e)
			}
		}
	}
	x := uint64(45)
	next := func(low, high int64) int64 {
		x = x*6364136223846793005 + 1442695040888963407
		return low + int64(x>>33)%(high-low+1)
	}
	for range 5000 {
		a, b := box(next(-9, 9), next(-9, 9), next(0, 9), next(0, 9)), box(next(-9, 9), next(-9, 9), next(0, 9), next(0, 9))
		m, e := Merge(a, b)
		common := false
		for px := int64(-18); px <= 18; px++ {
			for py := int64(-18); py <= 18; py++ {
				p := api.Point{X: px, Y: py}
				if inside(a, p) && inside(b, p) {
					common = true
					if e != api.OK || !inside(m, p) {
						t.Fatalf("%v and %v: %v is not in %v, %v", a, b, p, m, e)
					}
				}
			}
		}
		if common != (e == api.OK) || m.X > min(a.X, b.X) || m.Y > min(a.Y, b.Y) || e != api.OK && e != api.ErrConflict {
			t.Fatalf("%v and %v: %v, %v", a, b, m, e)
		}
	}
}

// P45.5
func TestReach(t *testing.T) {
	b := box(0, 0, 10, 20)
	for limit, want := range map[int64]bool{19: false, 20: true, 9: false, -1: false, math.MaxInt64: true} {
		if Within(b, limit) != want || Within(box(0, 0, 20, 10), limit) != want {
			t.Errorf("Within %d", limit)
		}
	}
	for i, c := range []struct {
		drift, limit, want int64
		e                  api.Errno
	}{{3, 30, 3, api.OK}, {3, 29, 3, api.OK}, {3, 28, 2, api.OK}, {3, 20, 0, api.OK}, {1000, 2_000_000, 1999, api.OK}, {1, 19, 0, api.ErrNone}, {0, 30, 0, api.ErrRange}, {1001, 30, 0, api.ErrRange}, {3, -1, 0, api.ErrRange}, {3, 2_000_001, 0, api.ErrRange}, {0, 0, 0, api.ErrRange}} {
		if got, e := Reach(b, c.drift, c.limit); got != c.want || e != c.e {
			t.Errorf("case %d: %d, %v", i, got, e)
		}
		if got, e := Reach(box(0, 0, 20, 10), c.drift, c.limit); got != c.want || e != c.e {
			t.Errorf("case %d, turned: %d, %v", i, got, e)
		}
	}
	for drift := int64(1); drift < 9; drift++ {
		for limit := int64(20); limit < 90; limit++ {
			n, _ := Reach(b, drift, limit)
			now, _ := Coast(b, v(0, 0), drift, n)
			then, _ := Coast(b, v(0, 0), drift, n+1)
			if !Within(now, limit) || Within(then, limit) {
				t.Errorf("Reach(%d, %d) = %d", drift, limit, n)
			}
		}
	}
}

// P45.6
func TestVelocity(t *testing.T) {
	for i, c := range []struct {
		track, speed int64
		want         api.Velocity
		e            api.Errno
	}{
		{30 * api.Degree, 500, v(250, 433), api.OK}, {30 * api.Degree, 1, v(1, 1), api.OK}, {210 * api.Degree, 1, v(0, -1), api.OK}, {-90 * api.Degree, 2000, v(-2000, 0), api.OK}, {7 * api.Circle, 0, v(0, 0), api.OK}, {0, -1, v(0, 0), api.ErrRange}, {0, 2001, v(0, 0), api.ErrRange}, {0, math.MinInt64, v(0, 0), api.ErrRange},
	} {
		if got, e := Velocity(c.track, c.speed); got != c.want || e != c.e {
			t.Errorf("case %d: %v, %v", i, got, e)
		}
	}
}
