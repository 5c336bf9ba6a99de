package fuel

import (
	"math"
	"testing"

	"flightdeck/api"
)

func in(lo, hi int64) api.Interval { return api.Interval{Lo: lo, Hi: hi} }

func bad() []api.Account {
	return []api.Account{{}, {Empty: 0, Loaded: 5}, {Empty: api.MaxMass + 1}, {Empty: 1, Loaded: -1}, {Empty: 1, Loaded: api.MaxMass}, {Empty: 1, Loaded: 5, Reserve: 6}, {Empty: 1, Loaded: 5, Reserve: -1}, {Empty: 1, Loaded: 5, Burnt: 6}, {Empty: 1, Loaded: 5, Burnt: -1}, {Empty: math.MinInt64, Loaded: math.MaxInt64, Reserve: math.MinInt64, Burnt: math.MaxInt64}}
}

// P32.1, P32.2
func TestAccounts(t *testing.T) {
	for _, a := range bad() {
		x, e := Burn(a, -1, -1)
		n, f := Endurance(a, -1)
		if Check(a) != api.ErrRange || Left(a) != 0 || Mass(a) != 0 || Low(a) || x != (api.Account{}) || e != api.ErrRange || n != 0 || f != api.ErrRange {
			t.Errorf("%v: %v, %d, %d, %v, %v, %v", a, Check(a), Left(a), Mass(a), Low(a), e, f)
		}
		if b, e := New(a.Empty, a.Loaded, a.Reserve); a.Burnt == 0 && (b != api.Account{} || e != api.ErrRange) {
			t.Errorf("New(%v) = %v, %v", a, b, e)
		}
	}
	a, e := New(1000, 600, 100)
	if a != (api.Account{Empty: 1000, Loaded: 600, Reserve: 100}) || e != api.OK || Check(a) != api.OK || Left(a) != 600 || Mass(a) != 1600 || Low(a) {
		t.Errorf("New: %v, %v", a, e)
	}
	for _, c := range []struct {
		burnt, left int64
		low         bool
	}{{0, 600, false}, {499, 101, false}, {500, 100, false}, {501, 99, true}, {600, 0, true}} {
		a.Burnt = c.burnt
		if Left(a) != c.left || Mass(a) != 1000+c.left || Low(a) != c.low {
			t.Errorf("burnt %d: %d, %d, %v", c.burnt, Left(a), Mass(a), Low(a))
		}
	}
	if a, e := New(api.MaxMass-5, 5, 5); e != api.OK || Mass(a) != api.MaxMass {
		t.Errorf("the greatest mass: %v, %v", a, e)
	}
}

// P32.3
func TestBurn(t *testing.T) {
	a, _ := New(1000, 600, 100)
	b, e := Burn(a, 10, 50)
	if e != api.OK || b.Burnt != 500 || Low(b) {
		t.Errorf("Burn: %v, %v", b, e)
	}
	c, e := Burn(b, 10, 1)
	if e != api.OK || c.Burnt != 510 || !Low(c) || a.Burnt != 0 {
		t.Errorf("Burn: %v, %v", c, e)
	}
	for _, k := range []struct {
		flow, ticks int64
		want        api.Errno
	}{{10, 60, api.OK}, {10, 61, api.ErrFuel}, {601, 1, api.ErrFuel}, {0, api.MaxTick, api.OK}, {50_000, api.MaxTick, api.ErrFuel}, {-1, 1, api.ErrRange}, {50_001, 1, api.ErrRange}, {1, -1, api.ErrRange}, {1, api.MaxTick + 1, api.ErrRange}, {math.MaxInt64, math.MaxInt64, api.ErrRange}} {
		if x, e := Burn(a, k.flow, k.ticks); e != k.want || e != api.OK && x != (api.Account{}) {
			t.Errorf("Burn(%d, %d) = %v, %v", k.flow, k.ticks, x, e)
		}
	}
}

// P32.4
func TestEndurance(t *testing.T) {
	a, _ := New(1000, 600, 100)
	for flow, want := range map[int64]int64{7: 71, 1: 500, 500: 1, 501: 0, 50_000: 0} {
		if n, e := Endurance(a, flow); n != want || e != api.OK {
			t.Errorf("Endurance(%d) = %d, %v", flow, n, e)
		}
	}
	for _, flow := range []int64{0, -1, 50_001, math.MinInt64} {
		if n, e := Endurance(a, flow); n != 0 || e != api.ErrRange {
			t.Errorf("Endurance(%d) = %d, %v", flow, n, e)
		}
	}
	a.Burnt = 500
	if n, e := Endurance(a, 7); n != 0 || e != api.OK {
		t.Errorf("at the reserve: %d, %v", n, e)
	}
	a.Burnt = 501
	if n, e := Endurance(a, 7); n != 0 || e != api.ErrFuel {
		t.Errorf("below the reserve: %d, %v", n, e)
	}
	if _, e := Endurance(a, 0); e != api.ErrRange {
		t.Errorf("the flow goes first: %v", e)
	}
}

// P32.5
func TestBurnIn(t *testing.T) {
	for i, c := range []struct {
		left, flow, ticks, want api.Interval
		e                       api.Errno
	}{
		{in(500, 600), in(2, 3), in(10, 20), in(440, 580), api.OK},
		{in(60, 60), in(2, 3), in(10, 20), in(0, 40), api.OK},
		{in(59, 60), in(2, 3), in(10, 20), in(0, 0), api.ErrFuel},
		{in(0, api.MaxMass), in(0, 0), in(0, api.MaxTick), in(0, api.MaxMass), api.OK},
		{in(0, api.MaxMass), in(0, 50_000), in(0, api.MaxTick), in(0, 0), api.ErrFuel},
		{in(6, 5), in(-1, 3), in(10, 20), in(0, 0), api.ErrArg},
		{in(-1, 5), in(3, 2), in(10, 20), in(0, 0), api.ErrArg},
		{in(-1, 5), in(2, 3), in(20, 10), in(0, 0), api.ErrArg},
		{in(-1, 5), in(2, 3), in(10, 20), in(0, 0), api.ErrRange},
		{in(0, api.MaxMass+1), in(2, 3), in(10, 20), in(0, 0), api.ErrRange},
		{in(0, 5), in(-1, 3), in(10, 20), in(0, 0), api.ErrRange},
		{in(0, 5), in(1, 50_001), in(10, 20), in(0, 0), api.ErrRange},
		{in(0, 5), in(1, 2), in(-1, 20), in(0, 0), api.ErrRange},
		{in(0, 5), in(1, 2), in(1, api.MaxTick+1), in(0, 0), api.ErrRange},
		{in(math.MinInt64, math.MaxInt64), in(math.MinInt64, math.MaxInt64), in(math.MinInt64, math.MaxInt64), in(0, 0), api.ErrRange},
	} {
		if x, e := BurnIn(c.left, c.flow, c.ticks); x != c.want || e != c.e {
			t.Errorf("case %d: %v, %v", i, x, e)
		}
	}
}

// P32.6
func TestNeeded(t *testing.T) {
	many := make([]int64, 65)
	for i, c := range []struct {
		flows, ticks []int64
		reserve      int64
		want         int64
		e            api.Errno
	}{
		{[]int64{10, 5}, []int64{20, 4}, 30, 250, api.OK},
		{nil, nil, 30, 30, api.OK},
		{many[:64], many[:64], 0, 0, api.OK},
		{many, many[:64], -1, 0, api.ErrArg},
		{many, many, -1, 0, api.ErrLimit},
		{[]int64{-1}, []int64{1}, 0, 0, api.ErrRange},
		{[]int64{50_001}, []int64{1}, 0, 0, api.ErrRange},
		{[]int64{1}, []int64{-1}, 0, 0, api.ErrRange},
		{[]int64{1}, []int64{api.MaxTick + 1}, 0, 0, api.ErrRange},
		{nil, nil, -1, 0, api.ErrRange},
		{nil, nil, api.MaxMass + 1, 0, api.ErrRange},
		{nil, nil, api.MaxMass, api.MaxMass, api.OK},
		{[]int64{1}, []int64{1}, api.MaxMass, 0, api.ErrRange},
		{[]int64{50_000, 50_000}, []int64{api.MaxTick, api.MaxTick}, 0, 0, api.ErrRange},
	} {
		if x, e := Needed(c.flows, c.ticks, c.reserve); x != c.want || e != c.e {
			t.Errorf("case %d: %d, %v", i, x, e)
		}
	}
}
