package vertical

import (
	"math"
	"testing"

	"flightdeck/api"
	"flightdeck/constraint"
	"flightdeck/profile"
)

// P51.1
func TestDeviation(t *testing.T) {
	for _, c := range [][3]int64{{100, 350, 250}, {350, 100, -250}, {math.MinInt64, 1, math.MaxInt64}, {math.MaxInt64, -2, math.MinInt64}, {7, 7, 0}} {
		if got := Deviation(c[0], c[1]); got != c[2] {
			t.Errorf("Deviation(%d, %d) = %d", c[0], c[1], got)
		}
	}
}

// P51.2
func TestCommand(t *testing.T) {
	for _, c := range []struct {
		alt, target, most, want int64
		e                       api.Errno
	}{
		{0, 1000, 2000, 63, api.OK}, {0, -5, 2000, -1, api.OK}, {0, 100_000, 2000, 2000, api.OK}, {0, -100_000, 2000, -2000, api.OK}, {5, 5, 2000, 0, api.OK}, {0, 100, 0, 0, api.OK}, {0, -100, 0, 0, api.OK},
		{0, 16, 2000, 1, api.OK}, {0, 17, 2000, 2, api.OK}, {0, -16, 2000, -1, api.OK}, {0, -17, 2000, -2, api.OK}, {api.MinAlt, api.MaxAlt, api.MaxRate, api.MaxRate, api.OK}, {api.MaxAlt, api.MinAlt, api.MaxRate, -api.MaxRate, api.OK},
		{api.MinAlt - 1, 0, 5, 0, api.ErrRange}, {api.MaxAlt + 1, 0, 5, 0, api.ErrRange}, {0, api.MinAlt - 1, 5, 0, api.ErrRange}, {0, api.MaxAlt + 1, 5, 0, api.ErrRange}, {0, 100, -1, 0, api.ErrRange}, {0, 100, api.MaxRate + 1, 0, api.ErrRange}, {math.MinInt64, math.MaxInt64, math.MinInt64, 0, api.ErrRange},
	} {
		if got, e := Command(c.alt, c.target, c.most); got != c.want || e != c.e {
			t.Errorf("Command(%d, %d, %d) = %d, %v", c.alt, c.target, c.most, got, e)
		}
	}
	for deviation := int64(-300); deviation <= 300; deviation++ {
		for most := int64(0); most < 25; most++ {
			vs, e := Command(5000, 5000+deviation, most)
			left := deviation - vs
			if e != api.OK || left*deviation < 0 || max(vs, -vs) > most || most > 0 && deviation != 0 && max(left, -left) >= max(deviation, -deviation) {
				t.Fatalf("Command of %d with at most %d: %d", deviation, most, vs)
			}
		}
	}
}

// P51.3
func TestLimit(t *testing.T) {
	for _, c := range []struct {
		last, want, result int64
		e                  api.Errno
	}{
		{100, -500, 60, api.OK}, {100, 500, 140, api.OK}, {100, 140, 140, api.OK}, {100, 141, 140, api.OK}, {100, 60, 60, api.OK}, {100, 59, 60, api.OK}, {0, 7, 7, api.OK}, {api.MaxRate, -api.MaxRate, api.MaxRate - 40, api.OK}, {-api.MaxRate, api.MaxRate, 40 - api.MaxRate, api.OK},
		{api.MaxRate + 1, 0, 0, api.ErrRange}, {-api.MaxRate - 1, 0, 0, api.ErrRange}, {0, api.MaxRate + 1, 0, api.ErrRange}, {0, -api.MaxRate - 1, 0, api.ErrRange}, {math.MinInt64, math.MaxInt64, 0, api.ErrRange},
	} {
		if got, e := Limit(c.last, c.want); got != c.result || e != c.e {
			t.Errorf("Limit(%d, %d) = %d, %v", c.last, c.want, got, e)
		}
	}
}

// P51.4
func TestCapture(t *testing.T) {
	for _, c := range []struct {
		alt, vs, target int64
		want            bool
		e               api.Errno
	}{
		{0, 100, 1600, true, api.OK}, {0, 100, 1601, false, api.OK}, {0, -100, 1600, false, api.OK}, {0, -100, -1600, true, api.OK}, {0, -100, -1601, false, api.OK}, {0, 100, -1600, false, api.OK}, {0, 0, 0, true, api.OK}, {0, 100, 0, true, api.OK}, {0, -100, 0, true, api.OK}, {0, 0, 1, false, api.OK}, {0, 0, -1, false, api.OK},
		{api.MinAlt - 1, 0, 0, false, api.ErrRange}, {api.MaxAlt + 1, 0, api.MaxAlt + 1, false, api.ErrRange}, {0, 0, api.MinAlt - 1, false, api.ErrRange}, {0, 0, api.MaxAlt + 1, false, api.ErrRange}, {0, api.MaxRate + 1, 0, false, api.ErrRange}, {0, -api.MaxRate - 1, 0, false, api.ErrRange}, {0, math.MinInt64, -5, false, api.ErrRange},
	} {
		if got, e := Capture(c.alt, c.vs, c.target); got != c.want || e != c.e {
			t.Errorf("Capture(%d, %d, %d) = %v, %v", c.alt, c.vs, c.target, got, e)
		}
	}
}

// predicted returns a prediction with these altitudes; the airspeeds are a thousandth of them, and 200.
func predicted(alts ...int64) api.Prediction {
	var p api.Prediction
	for _, alt := range alts {
		p.Passages = append(p.Passages, api.Passage{Alt: alt, CAS: 200 + alt/1000})
	}
	return p
}

// P51.5
func TestTarget(t *testing.T) {
	p := predicted(0, 40_000, 40_000, 10_000, 90_000)
	dists := []int64{100, 200, 7, 0}
	alts, speeds := []int64{0, 40_000, 40_000, 10_000, 90_000}, []int64{200, 240, 240, 210, 290}
	for s := int64(-2); s < 312; s++ {
		want, f := profile.Between(alts, dists, s)
		if got, e := Target(p, dists, s); got != want || e != f {
			t.Errorf("Target at %d: %d, %v", s, got, e)
		}
		want, f = profile.Between(speeds, dists, s)
		if got, e := Speed(p, dists, s); got != want || e != f {
			t.Errorf("Speed at %d: %d, %v", s, got, e)
		}
	}
	if got, e := Target(predicted(0, 1000, 1000), []int64{6000, 6000}, 3000); got != 500 || e != api.OK {
		t.Errorf("Target: %d, %v", got, e)
	}
	if got, e := Target(p, dists, 307); got != 90_000 || e != api.OK {
		t.Errorf("the last one of two nodes: %d, %v", got, e)
	}
}

// P51.5 to P51.7: the errors of profile.Between
func TestBadPredictions(t *testing.T) {
	for i, c := range []struct {
		p     api.Prediction
		dists []int64
		s     int64
		want  api.Errno
	}{
		{predicted(make([]int64, api.MaxNodes+1)...), nil, 0, api.ErrLimit}, {api.Prediction{}, nil, 0, api.ErrArg}, {predicted(0, 0), nil, 0, api.ErrArg}, {predicted(0), []int64{5}, 0, api.ErrArg}, {predicted(0, 0), []int64{-1}, 0, api.ErrRange}, {predicted(0, 0), []int64{api.MaxDist + 1}, 0, api.ErrRange}, {predicted(0, 0), []int64{5}, -1, api.ErrRange}, {predicted(0, 0), []int64{5}, 6, api.ErrRange},
	} {
		if got, e := Target(c.p, c.dists, c.s); got != 0 || e != c.want {
			t.Errorf("Target %d: %d, %v", i, got, e)
		}
		if got, e := Speed(c.p, c.dists, c.s); got != 0 || e != c.want {
			t.Errorf("Speed %d: %d, %v", i, got, e)
		}
		if got, e := Path(c.p, c.dists, c.s, 0); got != 0 || e != c.want {
			t.Errorf("Path %d: %d, %v", i, got, e)
		}
		if target, vs, speed, e := Steer(c.p, c.dists, c.s, 0, math.MinInt64, 0); target != 0 || vs != 0 || speed != 0 || e != c.want {
			t.Errorf("Steer %d: %d, %d, %d, %v", i, target, vs, speed, e)
		}
	}
	p := api.Prediction{Passages: []api.Passage{{Alt: constraint.Bound + 1}}}
	if _, e := Target(p, nil, 0); e != api.ErrRange {
		t.Errorf("Target: %v", e)
	}
	if _, e := Speed(p, nil, 0); e != api.OK {
		t.Errorf("Speed: %v", e)
	}
}

// P51.6
func TestPath(t *testing.T) {
	for i, c := range []struct {
		p         api.Prediction
		dists     []int64
		s, ground int64
		want      int64
		e         api.Errno
	}{
		{predicted(0, 1000, 1000), []int64{6000, 6000}, 3000, 300, 50, api.OK}, {predicted(0, 1000, 1000), []int64{6000, 6000}, 6000, 300, 0, api.OK}, {predicted(0, 1000, 1000), []int64{6000, 6000}, 5999, 300, 50, api.OK}, {predicted(0, 1000, 1000), []int64{6000, 6000}, 0, 300, 50, api.OK},
		{predicted(0, 1000, 0), []int64{6000, 6000}, 6000, 301, -51, api.OK}, {predicted(0, 1000, 0), []int64{6000, 6000}, 0, 301, 50, api.OK}, {predicted(0, 1000, 0), []int64{6000, 6000}, 12_000, 301, 0, api.OK},
		{predicted(0, 100_000), []int64{10}, 3, 300, api.MaxRate, api.OK}, {predicted(100_000, 0), []int64{10}, 3, 300, -api.MaxRate, api.OK}, {predicted(constraint.Bound, -constraint.Bound), []int64{1}, 0, MaxGround, -api.MaxRate, api.OK},
		{predicted(0, 500, 900, 0), []int64{0, 0, 900}, 0, 90, -90, api.OK}, {predicted(0, 500, 900), []int64{90, 0}, 90, 90, 0, api.OK}, {predicted(77), nil, 0, 90, 0, api.OK},
		{predicted(0, 1000), []int64{6000}, 3000, 0, 0, api.ErrRange}, {predicted(0, 1000), []int64{6000}, 3000, MaxGround + 1, 0, api.ErrRange}, {predicted(0, 1000), []int64{6000}, 6000, math.MinInt64, 0, api.ErrRange}, {predicted(0, 6000), []int64{6000}, 3000, MaxGround, MaxGround, api.OK}, {predicted(0, 6000), []int64{6000}, 3000, 1, 1, api.OK},
	} {
		if got, e := Path(c.p, c.dists, c.s, c.ground); got != c.want || e != c.e {
			t.Errorf("case %d: %d, %v", i, got, e)
		}
	}
}

// P51.7
func TestSteer(t *testing.T) {
	p := predicted(0, 1000, 1000)
	dists := []int64{6000, 6000}
	far := predicted(api.MaxAlt+1, api.MaxAlt)
	fast := api.Prediction{Passages: []api.Passage{{CAS: constraint.Bound + 1}}}
	for i, c := range []struct {
		p                      api.Prediction
		dists                  []int64
		s, ground, alt, last   int64
		target, vertical, want int64
		e                      api.Errno
	}{
		{p, dists, 3000, 300, 500, 50, 500, 50, 200, api.OK}, {p, dists, 3000, 300, 500, 0, 500, 40, 200, api.OK}, {p, dists, 3000, 300, 820, 50, 500, 30, 200, api.OK}, {p, dists, 3000, 300, 180, 50, 500, 70, 200, api.OK}, {p, dists, 3000, 300, 5300, 50, 500, 10, 200, api.OK}, {p, dists, 6000, 300, 1000, 0, 1000, 0, 201, api.OK},
		{predicted(api.MinAlt, api.MaxAlt), []int64{1}, 0, MaxGround, api.MinAlt, api.MaxRate, api.MinAlt, api.MaxRate, 0, api.OK},
		{predicted(api.MaxAlt, api.MinAlt), []int64{1}, 0, MaxGround, api.MaxAlt, -api.MaxRate, api.MaxAlt, -api.MaxRate, 6200, api.OK},
		{predicted(api.MaxAlt, api.MinAlt), []int64{1}, 0, MaxGround, api.MinAlt, 0, api.MaxAlt, 0, 6200, api.OK},
		{p, dists, 3000, 0, 500, 50, 0, 0, 0, api.ErrRange}, {p, dists, 3000, 300, api.MaxAlt + 1, 50, 0, 0, 0, api.ErrRange}, {p, dists, 3000, 300, api.MinAlt - 1, 50, 0, 0, 0, api.ErrRange}, {p, dists, 3000, 300, 500, api.MaxRate + 1, 0, 0, 0, api.ErrRange}, {p, dists, 3000, 300, 500, -api.MaxRate - 1, 0, 0, 0, api.ErrRange}, {far, []int64{100}, 0, 300, 500, 0, 0, 0, 0, api.ErrRange}, {fast, nil, 0, 300, 0, 0, 0, 0, 0, api.ErrRange},
	} {
		if c.want == 0 && c.e == api.OK {
			c.want = 200 + api.MinAlt/1000
		}
		target, vs, speed, e := Steer(c.p, c.dists, c.s, c.ground, c.alt, c.last)
		if target != c.target || vs != c.vertical || speed != c.want || e != c.e {
			t.Errorf("case %d: %d, %d, %d, %v", i, target, vs, speed, e)
		}
	}
}
