package sensor

import (
	"math"
	"math/big"
	"slices"
	"testing"

	"flightdeck/angle"
	"flightdeck/api"
	"flightdeck/line"
	"flightdeck/trig"
)

const deg = api.Degree

func pt(x, y int64) api.Point { return api.Point{X: x, Y: y} }

func box(x, y, wide, high int64) api.Box { return api.Box{Center: pt(x, y), X: wide, Y: high} }

func position() api.Report {
	return api.Report{Source: 1, Kind: api.PositionReport, Point: pt(100, -50), Bound: 30, Weight: 2}
}

func distance() api.Report {
	return api.Report{Source: 2, Kind: api.RangeReport, Value: 10_000, Bound: 10, Weight: 1}
}

func bearing() api.Report {
	return api.Report{Source: 3, Kind: api.BearingReport, Value: 90 * deg, Weight: 1}
}

// P41.1
func TestCheck(t *testing.T) {
	for i, c := range []struct {
		change func(r *api.Report)
		want   [3]api.Errno // of a position, a range, a bearing
	}{
		{func(r *api.Report) {}, [3]api.Errno{}},
		{func(r *api.Report) { r.Source = 0; r.Tick = -1 }, [3]api.Errno{1, 1, 1}}, {func(r *api.Report) { r.Source = 9 }, [3]api.Errno{1, 1, 1}}, {func(r *api.Report) { r.Source = 8 }, [3]api.Errno{}},
		{func(r *api.Report) { r.Kind = 0 }, [3]api.Errno{1, 1, 1}}, {func(r *api.Report) { r.Kind = 4 }, [3]api.Errno{1, 1, 1}},
		{func(r *api.Report) { r.Point.X = 2_000_001; r.Tick = -1 }, [3]api.Errno{1, 1, 1}}, {func(r *api.Report) { r.Weight = 0; r.Bound = -1 }, [3]api.Errno{1, 1, 1}}, {func(r *api.Report) { r.Weight = 17 }, [3]api.Errno{1, 1, 1}}, {func(r *api.Report) { r.Weight = 16 }, [3]api.Errno{}},
		{func(r *api.Report) { r.Tick = -1 }, [3]api.Errno{2, 2, 2}}, {func(r *api.Report) { r.Tick = api.MaxTick }, [3]api.Errno{}}, {func(r *api.Report) { r.Tick = api.MaxTick + 1 }, [3]api.Errno{2, 2, 2}},
		{func(r *api.Report) { r.Bound = -1 }, [3]api.Errno{2, 2, 2}}, {func(r *api.Report) { r.Bound = 600_000 }, [3]api.Errno{}}, {func(r *api.Report) { r.Bound = 600_001 }, [3]api.Errno{2, 2, 0}}, {func(r *api.Report) { r.Bound = 10 * deg }, [3]api.Errno{2, 2, 0}}, {func(r *api.Report) { r.Bound = 10*deg + 1 }, [3]api.Errno{2, 2, 2}},
		{func(r *api.Report) { r.Value = -1 }, [3]api.Errno{2, 2, 2}}, {func(r *api.Report) { r.Value = 0 }, [3]api.Errno{}}, {func(r *api.Report) { r.Value = 1 }, [3]api.Errno{2, 0, 0}}, {func(r *api.Report) { r.Value = api.MaxDist }, [3]api.Errno{2, 0, 0}}, {func(r *api.Report) { r.Value = api.MaxDist + 1 }, [3]api.Errno{2, 2, 0}}, {func(r *api.Report) { r.Value = api.Circle - 1 }, [3]api.Errno{2, 2, 0}}, {func(r *api.Report) { r.Value = api.Circle }, [3]api.Errno{2, 2, 2}},
	} {
		for k, r := range []api.Report{position(), distance(), bearing()} {
			c.change(&r)
			want := c.want[k]
			if e := Check(r); e != want {
				t.Errorf("case %d, kind %d: %v, want %v", i, k+1, e, want)
			}
			if want == api.OK {
				continue
			}
			a, e := Aged(r, -1, -1)
			l, f := Rows(r, box(0, 0, -1, 0))
			if a != (api.Report{}) || e != want || len(l) > 0 || f != want || Text(r) != "" || Agrees(r, r.Point) {
				t.Errorf("case %d, kind %d: Aged %v, Rows %v", i, k+1, e, f)
			}
		}
	}
}

// P41.2
func TestAgrees(t *testing.T) {
	far := distance()
	far.Bound = 20_000
	exact := distance()
	exact.Bound = 0
	wide := bearing()
	wide.Bound = deg
	none := bearing()
	none.Bound = 1
	for i, c := range []struct {
		r    api.Report
		p    api.Point
		want bool
	}{
		{position(), pt(130, -80), true}, {position(), pt(131, -50), false}, {position(), pt(69, -50), false}, {position(), pt(100, -19), false}, {position(), pt(70, -20), true}, {position(), pt(2_000_001, 0), false},
		{distance(), pt(6000, 8000), true}, {distance(), pt(0, 10_010), true}, {distance(), pt(1, 10_010), false}, {distance(), pt(0, -9990), true}, {distance(), pt(0, 9989), false}, {distance(), pt(9990, 1), true}, {exact, pt(10_000, 0), true}, {exact, pt(10_000, 1), false}, {exact, pt(9999, 140), false}, {exact, pt(6000, -8000), true},
		{far, pt(0, 0), true}, {far, pt(30_000, 0), true}, {far, pt(30_000, 1), false}, {distance(), pt(0, -2_000_001), false},
		{wide, pt(100_000, 0), true}, {wide, pt(100_000, 1745), true}, {wide, pt(100_000, 1746), false}, {wide, pt(100_000, -1745), true}, {wide, pt(-100_000, 0), false}, {wide, pt(0, 0), false}, {none, pt(5, 0), false}, {bearing(), pt(5, 0), false}, {wide, pt(2_000_001, 0), false},
	} {
		if Agrees(c.r, c.p) != c.want {
			t.Errorf("case %d: %v and %v", i, c.r, c.p)
		}
	}
	two := bearing()
	two.Bound = 2
	if !Agrees(two, pt(5, 0)) {
		t.Errorf("a bearing with the bound 2")
	}
	north := api.Report{Source: 1, Kind: api.BearingReport, Value: api.Circle - 1, Bound: 10, Weight: 1}
	if !Agrees(north, pt(0, 9)) {
		t.Errorf("a bearing next to north")
	}
}

// P41.3
func TestAged(t *testing.T) {
	at := func(r api.Report, tick int64) api.Report {
		r.Tick = tick
		return r
	}
	for i, c := range []struct {
		r           api.Report
		tick, speed int64
		bound       int64
		want        api.Errno
	}{
		{at(position(), 50), 50, 1000, 30, api.OK}, {at(position(), 50), 70, 300, 6030, api.OK}, {at(distance(), 50), 53, 1000, 3010, api.OK}, {at(distance(), 50), 53, 0, 10, api.OK}, {at(bearing(), 50), 50, 5, 0, api.OK},
		{at(position(), 50), -1, 0, 0, api.ErrRange}, {at(position(), 50), api.MaxTick + 1, 0, 0, api.ErrRange}, {at(position(), 50), 49, -1, 0, api.ErrRange}, {at(position(), 50), 49, 1001, 0, api.ErrRange}, {at(position(), 50), 49, 5, 0, api.ErrTime}, {at(position(), 50), 71, 5, 0, api.ErrTime}, {at(bearing(), 50), 71, 5, 0, api.ErrTime}, {at(bearing(), 50), 51, 5, 0, api.ErrType}, {at(bearing(), 50), 51, 0, 0, api.ErrType},
	} {
		got, e := Aged(c.r, c.tick, c.speed)
		want := at(c.r, c.tick)
		want.Bound = c.bound
		if e != c.want || e == api.OK && got != want || e != api.OK && got != (api.Report{}) {
			t.Errorf("case %d: %v, %v", i, got, e)
		}
	}
	great := position()
	great.Bound = MaxBound - 1000
	if got, e := Aged(great, 1, 1000); e != api.OK || got.Bound != MaxBound {
		t.Errorf("the greatest bound: %v, %v", got, e)
	}
	great.Bound++
	if got, e := Aged(great, 1, 1000); got != (api.Report{}) || e != api.ErrRange {
		t.Errorf("beyond the greatest bound: %v, %v", got, e)
	}
	// What agreed before agrees with every point that is near enough.
	for _, r := range []api.Report{position(), distance()} {
		p := pt(80, -70)
		if r.Kind == api.RangeReport {
			p = pt(6000, 8000)
		}
		aged, _ := Aged(r, 7, 100)
		for a := int64(0); a < api.Circle; a += deg {
			q, _ := line.Ray(p, a, 699)
			if !Agrees(r, p) || !Agrees(aged, q) {
				t.Errorf("%v does not agree with %v any more", aged, q)
			}
		}
	}
}

// P41.4
func TestBoxes(t *testing.T) {
	for b, want := range map[api.Box]int64{box(0, 0, 3, 4): 5, box(9, 9, 1, 1): 2, box(0, 0, 0, 0): 0, box(0, 0, 0, 7): 7, box(0, 0, 2_000_000, 2_000_000): 2_828_428, box(2_000_001, 0, 3, 4): 0, box(0, 0, -1, 4): 0, box(0, 0, 3, 2_000_001): 0} {
		if got := Radius(b); got != want {
			t.Errorf("Radius(%v) = %d", b, got)
		}
	}
	b := box(10, 20, 3, 4)
	for p, want := range map[api.Point]bool{pt(10, 20): true, pt(13, 24): true, pt(7, 16): true, pt(14, 20): false, pt(6, 20): false, pt(10, 25): false, pt(10, 15): false, pt(math.MaxInt64, math.MinInt64): false} {
		if Inside(b, p) != want {
			t.Errorf("%v", p)
		}
	}
	if Inside(box(0, 0, -1, 5), pt(0, 0)) || Inside(box(2_000_001, 0, 5, 5), pt(2_000_001, 0)) || !Inside(box(2_000_000, 0, 5, 5), pt(2_000_005, 0)) {
		t.Errorf("boxes at the border")
	}
}

// ratio returns a / b as a rational number, rounded to the nearest integer (halfway up) or up.
func ratio(a, b int64, up bool) int64 {
	r := big.NewRat(a, b)
	if !up {
		r.Add(r, big.NewRat(1, 2))
	}
	q := new(big.Int).Div(r.Num(), r.Denom())
	if up && new(big.Int).Mul(q, r.Denom()).Cmp(r.Num()) != 0 {
		q.Add(q, big.NewInt(1))
	}
	return q.Int64()
}

// P41.5
func TestRows(t *testing.T) {
	for i, c := range []struct {
		r    api.Report
		b    api.Box
		want []api.Meas
	}{
		{position(), box(7, 7, 5, 5), []api.Meas{{Source: 1, A: 256, Z: 25_600, Bound: 7680, Weight: 2}, {Source: 1, B: 256, Z: -12_800, Bound: 7680, Weight: 2}}},
		{distance(), box(6000, 8000, 0, 0), []api.Meas{{Source: 2, A: 154, B: 205, Z: 2_564_000, Bound: 2816, Weight: 1}}},
		{bearing(), box(6000, 0, 0, 0), []api.Meas{{Source: 3, B: -256, Bound: 6002, Weight: 1}}},
	} {
		if got, e := Rows(c.r, c.b); !slices.Equal(got, c.want) || e != api.OK {
			t.Errorf("case %d: %v, %v", i, got, e)
		}
	}
	for i := range int64(400) {
		b := box(i*7919%1_000_001-500_000, i*104_729%900_001-450_000, i*i%3000, i*37%2000)
		station := pt(i*15_485_863%1_000_001-500_000, i*32_452_843%900_001-450_000)
		k, d := Radius(b), line.Dist(station, b.Center)
		r := api.Report{Source: 4, Kind: api.RangeReport, Point: station, Value: i * 9999, Bound: i * 7, Weight: 3}
		got, e := Rows(r, b)
		if d < 6000 || d < 4*k {
			if len(got) > 0 || e != api.ErrGeom {
				t.Errorf("%v, %v: %v, %v", r, b, got, e)
			}
		} else {
			m := api.Meas{Source: 4, Weight: 3, A: ratio(256*(b.Center.X-station.X), d, false), B: ratio(256*(b.Center.Y-station.Y), d, false)}
			m.Z = m.A*b.Center.X + m.B*b.Center.Y + 256*(r.Value-d)
			m.Bound = k + 256*(r.Bound+1+ratio(k*k, 2*(d-k), true))
			if len(got) != 1 || got[0] != m || e != api.OK {
				t.Errorf("%v, %v: %v, %v, want %v", r, b, got, e, m)
			}
		}
		r = api.Report{Source: 4, Kind: api.BearingReport, Point: station, Value: i * 9_999_991 % api.Circle, Bound: i * 7777, Weight: 3}
		got, e = Rows(r, b)
		m := api.Meas{Source: 4, Weight: 3, A: ratio(256*trig.Cos(r.Value), 1<<30, false), B: ratio(-256*trig.Sin(r.Value), 1<<30, false)}
		g := d + 1 + k
		m.Z, m.Bound = m.A*station.X+m.B*station.Y, g+ratio(256*g*(trig.Sin(r.Bound)+2), 1<<30, true)
		if len(got) != 1 || got[0] != m || e != api.OK {
			t.Errorf("%v, %v: %v, %v, want %v", r, b, got, e, m)
		}
	}
	for i, c := range []struct {
		r    api.Report
		b    api.Box
		want api.Errno
	}{
		{distance(), box(0, 0, -1, 0), api.ErrArg}, {position(), box(2_000_001, 0, 0, 0), api.ErrArg}, {bearing(), box(0, 0, 0, 2_000_001), api.ErrArg},
		{distance(), box(5999, 0, 0, 0), api.ErrGeom}, {distance(), box(6000, 0, 0, 0), api.OK}, {distance(), box(0, 0, 0, 0), api.ErrGeom}, {distance(), box(7999, 0, 2000, 0), api.ErrGeom}, {distance(), box(8000, 0, 2000, 0), api.OK}, {bearing(), box(0, 0, 0, 0), api.OK},
	} {
		if got, e := Rows(c.r, c.b); e != c.want || (len(got) > 0) != (e == api.OK) {
			t.Errorf("error case %d: %v, %v", i, got, e)
		}
	}
}

// P41.6
func TestCertified(t *testing.T) {
	x := uint64(41)
	next := func(low, high int64) int64 {
		x = x*6364136223846793005 + 1442695040888963407
		return low + int64(x>>33)%(high-low+1)
	}
	agreeing := 0
	for range 60_000 {
		p := pt(next(-600_000, 600_000), next(-600_000, 600_000))
		b := box(0, 0, next(0, 9000), next(0, 9000))
		b.Center = pt(p.X+next(-b.X, b.X), p.Y+next(-b.Y, b.Y))
		r := api.Report{Source: 1, Kind: api.ReportKind(next(1, 3)), Point: pt(next(-600_000, 600_000), next(-600_000, 600_000)), Bound: next(0, 5000), Weight: 1}
		switch r.Kind {
		case api.PositionReport:
			r.Point = pt(p.X+next(-r.Bound, r.Bound), p.Y+next(-r.Bound, r.Bound))
		case api.RangeReport:
			r.Value = max(0, line.Dist(r.Point, p)+next(-r.Bound, r.Bound))
		case api.BearingReport:
			r.Bound *= 700
			course, _ := line.Course(r.Point, p)
			r.Value = angle.Norm(course + next(-r.Bound, r.Bound))
		}
		l, e := Rows(r, b)
		if e != api.OK || !Agrees(r, p) || !Inside(b, p) {
			continue
		}
		agreeing++
		for _, m := range l {
			if off := m.A*p.X + m.B*p.Y - m.Z; max(off, -off) > m.Bound {
				t.Fatalf("%v agrees with %v in %v, but %v is off by %d", r, p, b, m, off)
			}
		}
	}
	if agreeing < 30_000 {
		t.Errorf("only %d", agreeing)
	}
}

// P41.7
func TestText(t *testing.T) {
	far := api.Report{Source: 8, Kind: api.BearingReport, Point: pt(-2_000_000, 2_000_000), Value: api.Circle - 1, Bound: MaxBearing, Weight: 16, Tick: api.MaxTick}
	for s, r := range map[string]api.Report{"1 P 100 -50 0 30 2 0": position(), "2 R 0 0 10000 10 1 0": distance(), "3 B 0 0 32400000 0 1 0": bearing(), "8 B -2000000 2000000 129599999 3600000 16 1099511627776": far} {
		if got := Text(r); got != s {
			t.Errorf("Text(%v) = %q", r, got)
		}
		if got, e := Parse(s); got != r || e != api.OK {
			t.Errorf("Parse(%q) = %v, %v", s, got, e)
		}
	}
	for s, want := range map[string]api.Errno{
		"": api.ErrForm, "1 P 100 -50 0 30 2": api.ErrForm, "1 P 100 -50 0 30 2 0 0": api.ErrForm, "1  P 100 -50 0 30 2 0": api.ErrForm, "1 P 100 -50 0 30 2 ": api.ErrForm, " 1 P 100 -50 0 30 2 0": api.ErrForm, "1 p 100 -50 0 30 2 0": api.ErrForm, "1 PR 100 -50 0 30 2 0": api.ErrForm, "1 X 100 -50 0 30 2 0": api.ErrForm, "P 1 100 -50 0 30 2 0": api.ErrForm, "01 P 100 -50 0 30 2 0": api.ErrForm, "1 P +100 -50 0 30 2 0": api.ErrForm, "1 P 100 --50 0 30 2 0": api.ErrForm, "1 P 100 - 0 30 2 0": api.ErrForm, "1 P 100 -50 -0 30 2 0": api.ErrForm, "1 P 100 -50 00 30 2 0": api.ErrForm, "1 P 100 -50 0 3x 2 0": api.ErrForm, "1 P 100 -50 0 30 2 1234567890123456": api.ErrForm, "0 P 100 -50 0 30 2 0": api.ErrArg, "9 P 100 -50 0 30 2 1234567890123456": api.ErrForm,
		"1 P 100 -50 0 30 2 123456789012345": api.ErrRange, "-1 P 100 -50 0 30 2 0": api.ErrArg, "1 P 100 -50 1 30 2 0": api.ErrRange, "1 P 100 -50 0 30 0 0": api.ErrArg, "1 P 999999999999999 -50 0 30 2 0": api.ErrArg,
	} {
		if got, e := Parse(s); got != (api.Report{}) || e != want {
			t.Errorf("Parse(%q) = %v, %v", s, got, e)
		}
	}
}
