package performance

import (
	"math"
	"math/big"
	"reflect"
	"slices"
	"strings"
	"testing"

	"flightdeck/api"
)

// small is the chapter's example.
func small() api.Perf {
	return api.Perf{Name: "SMALL", Empty: 500, MaxFuel: 1500, Alts: []int64{0, 3_000_000}, Masses: []int64{1000, 2000},
		Climb: [][]int64{{3000, 2000}, {1000, 500}}, ClimbFlow: [][]int64{{500, 700}, {300, 400}}, Cruise: [][]int64{{400, 410}, {200, 333}},
		Descent: []int64{1000, 1501}, Idle: []int64{90, 60}, MaxSpeed: []int64{350, 300}, MinSpeed: []int64{100, 133}, Ref: 250, Extra: 7, Ceiling: 3_000_000}
}

// large has as many rows and columns as there may be.
func large() api.Perf {
	p := api.Perf{Name: "LARGE", Empty: api.MaxMass - 1, MaxFuel: 1, Ref: 1000, Extra: 100, Ceiling: api.MaxAlt}
	for i := range int64(12) {
		p.Alts = append(p.Alts, -200_000+i*500_025)
		p.Descent = append(p.Descent, 1+i*909)
		p.Idle = append(p.Idle, 50_000-i)
		p.MaxSpeed = append(p.MaxSpeed, 1000-i*90)
		var climb, flow, cruise []int64
		for j := range int64(6) {
			climb = append(climb, 10_000-i*800-j*200)
			flow = append(flow, 40_000-i*3000+j*2000)
			cruise = append(cruise, 36_000-i*3000+j*j*500)
		}
		p.Climb = append(p.Climb, climb)
		p.ClimbFlow = append(p.ClimbFlow, flow)
		p.Cruise = append(p.Cruise, cruise)
	}
	for j := range int64(6) {
		p.Masses = append(p.Masses, 1+j*j*100_000_000)
		p.MinSpeed = append(p.MinSpeed, 1+j*77)
	}
	return p
}

// P31.1
func TestCheck(t *testing.T) {
	if Check(small()) != api.OK || Check(large()) != api.OK {
		t.Errorf("%v, %v", Check(small()), Check(large()))
	}
	for i, c := range []struct {
		change func(p *api.Perf)
		want   api.Errno
	}{
		{func(p *api.Perf) { p.Name = ""; p.Empty = 0 }, api.ErrName},
		{func(p *api.Perf) { p.Name = "ABCDEFGHI" }, api.ErrName},
		{func(p *api.Perf) { p.Empty = 0; p.Alts = nil }, api.ErrRange},
		{func(p *api.Perf) { p.Empty = api.MaxMass + 1 }, api.ErrRange},
		{func(p *api.Perf) { p.MaxFuel = 0 }, api.ErrRange},
		{func(p *api.Perf) { p.MaxFuel = api.MaxMass - 499 }, api.ErrRange},
		{func(p *api.Perf) { p.MaxFuel = api.MaxMass - 500 }, api.OK},
		{func(p *api.Perf) { p.Alts = p.Alts[:1] }, api.ErrLimit},
		{func(p *api.Perf) { p.Alts = make([]int64, 13) }, api.ErrLimit},
		{func(p *api.Perf) { p.Masses = make([]int64, 7) }, api.ErrLimit},
		{func(p *api.Perf) { p.Masses = p.Masses[:1]; p.Climb = nil }, api.ErrLimit},
		{func(p *api.Perf) { p.Climb = p.Climb[:1]; p.Alts[0] = 9_000_000 }, api.ErrArg},
		{func(p *api.Perf) { p.ClimbFlow = append(p.ClimbFlow, nil) }, api.ErrArg},
		{func(p *api.Perf) { p.Cruise = nil }, api.ErrArg},
		{func(p *api.Perf) { p.Cruise[1] = p.Cruise[1][:1] }, api.ErrArg},
		{func(p *api.Perf) { p.Climb[0] = append(p.Climb[0], 1) }, api.ErrArg},
		{func(p *api.Perf) { p.Descent = nil }, api.ErrArg},
		{func(p *api.Perf) { p.Idle = append(p.Idle, 1) }, api.ErrArg},
		{func(p *api.Perf) { p.MaxSpeed = p.MaxSpeed[:1] }, api.ErrArg},
		{func(p *api.Perf) { p.MinSpeed = nil }, api.ErrArg},
		{func(p *api.Perf) { p.Alts[1] = p.Alts[0]; p.Ref = 0 }, api.ErrOrder},
		{func(p *api.Perf) { p.Masses[0] = 2000 }, api.ErrOrder},
		{func(p *api.Perf) { p.Masses[0] = 2001 }, api.ErrOrder},
		{func(p *api.Perf) { p.Alts[0] = api.MinAlt - 1; p.Climb[0][0] = 0 }, api.ErrRange},
		{func(p *api.Perf) { p.Alts[1] = api.MaxAlt + 1 }, api.ErrRange},
		{func(p *api.Perf) { p.Ceiling = api.MinAlt - 1 }, api.ErrRange},
		{func(p *api.Perf) { p.Ceiling = api.MaxAlt + 1 }, api.ErrRange},
		{func(p *api.Perf) { p.Masses[0] = 0 }, api.ErrRange},
		{func(p *api.Perf) { p.Masses[1] = api.MaxMass + 1 }, api.ErrRange},
		{func(p *api.Perf) { p.Climb[1][1] = -1 }, api.ErrRange},
		{func(p *api.Perf) { p.Climb[0][0] = 10_001 }, api.ErrRange},
		{func(p *api.Perf) { p.Descent[0] = 0 }, api.ErrRange},
		{func(p *api.Perf) { p.Descent[1] = 10_001 }, api.ErrRange},
		{func(p *api.Perf) { p.ClimbFlow[1][0] = -1 }, api.ErrRange},
		{func(p *api.Perf) { p.ClimbFlow[0][1] = 50_001 }, api.ErrRange},
		{func(p *api.Perf) { p.Cruise[0][1] = 50_001 }, api.ErrRange},
		{func(p *api.Perf) { p.Idle[1] = -1 }, api.ErrRange},
		{func(p *api.Perf) { p.MaxSpeed[1] = 0 }, api.ErrRange},
		{func(p *api.Perf) { p.MaxSpeed[0] = 1001 }, api.ErrRange},
		{func(p *api.Perf) { p.MinSpeed[0] = 0 }, api.ErrRange},
		{func(p *api.Perf) { p.Ref = 0 }, api.ErrRange},
		{func(p *api.Perf) { p.Ref = 1001 }, api.ErrRange},
		{func(p *api.Perf) { p.Extra = -1 }, api.ErrRange},
		{func(p *api.Perf) { p.Extra = 101 }, api.ErrRange},
		{func(p *api.Perf) { p.Climb[1][1] = 2001 }, api.ErrConflict},
		{func(p *api.Perf) { p.Climb[1] = []int64{1000, 1000} }, api.OK},
		{func(p *api.Perf) { p.Climb[1][1] = 1001 }, api.ErrConflict},
		{func(p *api.Perf) { p.Alts[1] = 2000; p.Climb[1][1] = 0 }, api.OK},
		{func(p *api.Perf) { p.Alts[1] = 1999 }, api.ErrConflict},
		{func(p *api.Perf) { p.ClimbFlow[1][0] = 501; p.ClimbFlow[1][1] = 501 }, api.ErrConflict},
		{func(p *api.Perf) { p.ClimbFlow[0][1] = 499 }, api.ErrConflict},
		{func(p *api.Perf) { p.Cruise[1][1] = 411 }, api.ErrConflict},
		{func(p *api.Perf) { p.Cruise[1][1] = 199 }, api.ErrConflict},
		{func(p *api.Perf) { p.Descent[1] = 999 }, api.ErrConflict},
		{func(p *api.Perf) { p.Idle[1] = 91 }, api.ErrConflict},
		{func(p *api.Perf) { p.MaxSpeed[1] = 351 }, api.ErrConflict},
		{func(p *api.Perf) { p.MinSpeed[1] = 99 }, api.ErrConflict},
	} {
		p := small()
		c.change(&p)
		if e := Check(p); e != c.want {
			t.Errorf("case %d: %v, want %v", i, e, c.want)
		}
		if s, e := Text(p); e != c.want || c.want != api.OK && s != "" {
			t.Errorf("case %d: Text %q, %v", i, s, e)
		}
		if c.want == api.OK {
			continue
		}
		for k, f := range functions() {
			if v, e := f(p, math.MaxInt64, math.MaxInt64, -1); v != 0 || e != c.want {
				t.Errorf("case %d, function %d: %d, %v", i, k, v, e)
			}
		}
	}
}

// functions has all functions of values; what they do not need is not handed over.
func functions() []func(p api.Perf, alt, mass, third int64) (int64, api.Errno) {
	return []func(p api.Perf, alt, mass, third int64) (int64, api.Errno){
		func(p api.Perf, alt, mass, _ int64) (int64, api.Errno) { return Climb(p, alt, mass) },
		func(p api.Perf, alt, mass, _ int64) (int64, api.Errno) { return ClimbFlow(p, alt, mass) },
		CruiseFlow,
		Rise,
		func(p api.Perf, alt, _, _ int64) (int64, api.Errno) { return Descent(p, alt) },
		func(p api.Perf, alt, _, _ int64) (int64, api.Errno) { return IdleFlow(p, alt) },
		func(p api.Perf, alt, _, _ int64) (int64, api.Errno) { return MaxSpeed(p, alt) },
		func(p api.Perf, _, mass, _ int64) (int64, api.Errno) { return MinSpeed(p, mass) },
	}
}

// P31.2, P31.3, P31.4
func TestArguments(t *testing.T) {
	p := small()
	for k, f := range functions() {
		for _, alt := range []int64{api.MinAlt - 1, api.MinAlt, 0, api.MaxAlt, api.MaxAlt + 1, math.MinInt64, math.MaxInt64} {
			for _, mass := range []int64{0, 1, 1500, api.MaxMass, api.MaxMass + 1, math.MinInt64, math.MaxInt64} {
				for _, third := range []int64{-1, 0, 4000, 4001, 50_000, 50_001, math.MinInt64, math.MaxInt64} {
					good := true
					if k != 7 {
						good = good && alt >= api.MinAlt && alt <= api.MaxAlt
					}
					if k < 4 || k == 7 {
						good = good && mass >= 1 && mass <= api.MaxMass
					}
					if k == 2 {
						good = good && third >= 0 && third <= 4000
					}
					if k == 3 {
						good = good && third >= 0 && third <= 50_000
					}
					if v, e := f(p, alt, mass, third); (e == api.OK) != good || !good && (v != 0 || e != api.ErrRange) {
						t.Errorf("function %d of %d, %d, %d: %d, %v", k, alt, mass, third, v, e)
					}
				}
			}
		}
	}
}

// listValue is the value of a list, by rational numbers.
func listValue(places, values []int64, x int64) int64 {
	if x <= places[0] {
		return values[0]
	}
	for i := 1; i < len(places); i++ {
		if x <= places[i] {
			if x == places[i] {
				return values[i]
			}
			n := new(big.Int).Mul(big.NewInt(values[i]-values[i-1]), big.NewInt(x-places[i-1]))
			return values[i-1] + n.Div(n, big.NewInt(places[i]-places[i-1])).Int64()
		}
	}
	return values[len(values)-1]
}

func tableValue(p api.Perf, rows [][]int64, alt, mass int64) int64 {
	var values []int64
	for j := range p.Masses {
		var column []int64
		for i := range rows {
			column = append(column, rows[i][j])
		}
		values = append(values, listValue(p.Alts, column, alt))
	}
	return listValue(p.Masses, values, mass)
}

// P31.2, P31.3
func TestValues(t *testing.T) {
	for _, p := range []api.Perf{small(), large()} {
		keep, _ := Text(p)
		for alt := int64(api.MinAlt); alt <= api.MaxAlt; alt += 77_777 {
			for mass := int64(1); mass <= api.MaxMass; mass = mass*5/4 + 17 {
				v, _ := Climb(p, alt, mass)
				flow, _ := ClimbFlow(p, alt, mass)
				if v != tableValue(p, p.Climb, alt, mass) || flow != tableValue(p, p.ClimbFlow, alt, mass) {
					t.Fatalf("at %d, %d: %d, %d", alt, mass, v, flow)
				}
				least, _ := MinSpeed(p, mass)
				if least != listValue(p.Masses, p.MinSpeed, mass) {
					t.Fatalf("MinSpeed at %d: %d", mass, least)
				}
				for _, tas := range []int64{0, p.Ref - 1, p.Ref, p.Ref + 1, p.Ref + 13, 4000} {
					want := tableValue(p, p.Cruise, alt, mass)
					want = min(want*(1000+p.Extra*max(0, tas-p.Ref))/1000, 50_000)
					if got, e := CruiseFlow(p, alt, mass, tas); got != want || e != api.OK {
						t.Fatalf("CruiseFlow(%d, %d, %d) = %d, %v, want %d", alt, mass, tas, got, e, want)
					}
				}
			}
			for k, l := range [][]int64{p.Descent, p.Idle, p.MaxSpeed} {
				if v, e := functions()[4+k](p, alt, 0, 0); v != listValue(p.Alts, l, alt) || e != api.OK {
					t.Fatalf("list %d at %d: %d, %v", k, alt, v, e)
				}
			}
		}
		if s, _ := Text(p); s != keep {
			t.Errorf("the tables are changed")
		}
	}
	if v, e := Climb(small(), 1_500_000, 1500); v != 1625 || e != api.OK {
		t.Errorf("the chapter's example: %d, %v", v, e)
	}
	if v, e := Climb(small(), -100_000, 500); v != 3000 || e != api.OK {
		t.Errorf("the chapter's example: %d, %v", v, e)
	}
}

// P31.4
func TestRise(t *testing.T) {
	for _, p := range []api.Perf{small(), large()} {
		p.Ceiling = 2_345_678
		for _, mass := range []int64{1, 1500, 2000, 1_000_000_000} {
			last, gain := int64(math.MinInt64), int64(math.MaxInt64)
			for alt := int64(api.MinAlt); alt < 3_000_000; alt += 50_021 {
				want := alt
				for ticks := int64(0); ticks <= 300; ticks++ {
					if ticks%60 == 0 {
						if got, e := Rise(p, alt, mass, ticks); got != want || e != api.OK {
							t.Fatalf("Rise(%d, %d, %d) = %d, %v, want %d", alt, mass, ticks, got, e, want)
						}
					}
					if want < p.Ceiling {
						rate, _ := Climb(p, want, mass)
						want = min(p.Ceiling, want+rate)
					}
				}
				up, _ := Rise(p, alt, mass, 250)
				if up < last || up-alt > gain {
					t.Fatalf("from %d to %d: less than from below, or more gained", alt, up)
				}
				last, gain = up, up-alt
			}
		}
	}
	if up, e := Rise(small(), 2_999_000, 1000, MaxTicks); up != 3_000_000 || e != api.OK {
		t.Errorf("to the ceiling: %d, %v", up, e)
	}
	if up, e := Rise(small(), 3_000_001, 1000, MaxTicks); up != 3_000_001 || e != api.OK {
		t.Errorf("above the ceiling: %d, %v", up, e)
	}
	weak := small()
	weak.Climb = [][]int64{{0, 0}, {0, 0}}
	if up, e := Rise(weak, 5, 1000, MaxTicks); up != 5 || e != api.OK {
		t.Errorf("without a climb: %d, %v", up, e)
	}
}

// P31.5
const text = `PERF SMALL 500 1500 250 7 30000
MASSES 1000 2000
MINSPEED 100 133
ROW 0 1000 90 350
CLIMB 3000 2000
CLIMBFLOW 500 700
CRUISE 400 410
ROW 30000 1501 60 300
CLIMB 1000 500
CLIMBFLOW 300 400
CRUISE 200 333
`

// P31.5, P31.6
func TestText(t *testing.T) {
	if s, e := Text(small()); s != text || e != api.OK {
		t.Errorf("%v\n%s", e, s)
	}
	for _, p := range []api.Perf{small(), large()} {
		s, _ := Text(p)
		got, diags := Parse("# so\n" + strings.ReplaceAll(s, " ", "  "))
		if !reflect.DeepEqual(got, p) || len(diags) > 0 {
			t.Errorf("Parse: %v, %v", got, diags)
		}
	}
}

// P31.6
func TestParseErrors(t *testing.T) {
	lines := strings.Split(strings.TrimSuffix(text, "\n"), "\n")
	for n := range lines { // records are missing
		_, diags := Parse(strings.Join(lines[:n], "\n"))
		want := []api.Diag{{Line: n + 1, Column: 1, Code: api.ErrForm}}
		if n == 7 {
			want = []api.Diag{{Line: 1, Column: 1, Code: api.ErrLimit}}
		}
		if n == 0 {
			want[0].Line = 1
		}
		if !slices.Equal(diags, want) {
			t.Errorf("%d records: %v, want %v", n, diags, want)
		}
	}
	type edit struct {
		line       int
		text       string
		at, column int
		code       api.Errno
	}
	for _, c := range []edit{
		{1, "  PERFX SMALL 500", 1, 3, api.ErrForm}, {1, "PERF small 500 1500 250 7 30000", 1, 6, api.ErrName}, {1, "PERF ABCDEFGHI 500", 1, 6, api.ErrName}, {1, "PERF SMALL x", 1, 12, api.ErrForm}, {1, "PERF SMALL -1", 1, 12, api.ErrRange}, {1, "PERF SMALL 3000000001", 1, 12, api.ErrRange}, {1, "PERF SMALL 500 1500 250 7", 1, 26, api.ErrForm}, {1, "PERF SMALL 500 1500 250 7 30000.00", 1, 27, api.ErrForm}, {1, "PERF SMALL 500 1500 250 7 30000 1", 1, 33, api.ErrForm},
		{1, " PERF SMALL 0 1500 250 7 30000", 1, 2, api.ErrRange}, {1, "PERF SMALL 500 1500 250 101 30000", 1, 1, api.ErrRange},
		{2, "MASSES", 2, 7, api.ErrForm}, {2, "MASSES 1 2 3 4 5 6 7", 2, 20, api.ErrForm}, {2, "MASSES 1 x", 2, 10, api.ErrForm}, {2, "MASSES 1", 1, 1, api.ErrLimit}, {2, "MASSES 2000 1000", 1, 1, api.ErrOrder}, {2, "MINSPEED 1 2", 2, 1, api.ErrForm},
		{3, "MINSPEED 1", 1, 1, api.ErrArg}, {3, "MINSPEED", 3, 9, api.ErrForm},
		{4, "ROWS", 4, 1, api.ErrForm}, {4, "ROW x", 4, 5, api.ErrForm}, {4, "ROW 60001 1 1 1", 4, 5, api.ErrRange}, {4, "ROW 0 1 1", 4, 10, api.ErrForm}, {4, "ROW 0 1000 90 350 5", 4, 19, api.ErrForm}, {4, "ROW 0 -1 1 1", 4, 7, api.ErrRange}, {4, "ROW 0 1502 90 350", 1, 1, api.ErrConflict},
		{5, "CLIMB", 5, 6, api.ErrForm}, {5, "CRUISE 1 2", 5, 1, api.ErrForm}, {5, "CLIMB 3000", 1, 1, api.ErrArg}, {6, "CLIMBFLOW 01 2", 6, 11, api.ErrForm}, {7, "CRUISE 1 2 3 4 5 6 7", 7, 20, api.ErrForm},
		{8, "CLIMB 1 2", 8, 1, api.ErrForm}, {11, "CRUISE 200 333\nPERF X", 12, 1, api.ErrForm}, {11, "CRUISE 200 333\nROW 40000 2000 50 200", 13, 1, api.ErrForm}, {3, "MINSPEED 100 133\n\n\n#", 1, 1, api.OK},
	} {
		l := slices.Clone(lines)
		l[c.line-1] = c.text
		p, diags := Parse(strings.Join(l, "\n"))
		if c.code == api.OK {
			if len(diags) > 0 || !reflect.DeepEqual(p, small()) {
				t.Errorf("%q: %v", c.text, diags)
			}
			continue
		}
		if !reflect.DeepEqual(p, api.Perf{}) || !slices.Equal(diags, []api.Diag{{Line: c.at, Column: c.column, Code: c.code}}) {
			t.Errorf("%q: %v, want line %d, column %d, %v", c.text, diags, c.at, c.column, c.code)
		}
	}
	if p, diags := Parse("x\ty\n\x01"); !reflect.DeepEqual(p, api.Perf{}) || len(diags) != 2 || diags[1] != (api.Diag{Line: 2, Column: 1, Code: api.ErrForm}) {
		t.Errorf("the diagnostics of the records: %v", diags)
	}
	s, _ := Text(large())
	for bad, code := range map[string]api.Errno{"  ROW 58000 10000 1 1\n": api.ErrLimit, "  ROW x\n": api.ErrLimit, "  ROX\n": api.ErrForm} {
		if _, diags := Parse(s + bad); !slices.Equal(diags, []api.Diag{{Line: 52, Column: 3, Code: code}}) {
			t.Errorf("a row too many: %v", diags)
		}
	}
}
