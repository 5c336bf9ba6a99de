package navigator

import (
	"math"
	"slices"
	"testing"

	"flightdeck/angle"
	"flightdeck/api"
	"flightdeck/exclusion"
	"flightdeck/inertial"
	"flightdeck/integrity"
	"flightdeck/line"
	"flightdeck/sensor"
)

func pt(x, y int64) api.Point { return api.Point{X: x, Y: y} }

func box(x, y, wide, high int64) api.Box { return api.Box{Center: pt(x, y), X: wide, Y: high} }

func state() api.NavState { return api.NavState{Box: box(0, 0, 100, 100), Tick: 10} }

// input is the chapter's example.
func input(reports ...api.Report) api.NavInput {
	return api.NavInput{Tick: 12, Reports: reports, Velocity: api.Velocity{East: 300}, Drift: 5, Required: 600}
}

func position(source int, x, y, bound, tick int64) api.Report {
	return api.Report{Source: source, Kind: api.PositionReport, Point: pt(x, y), Bound: bound, Weight: 1, Tick: tick}
}

func three() []api.Report {
	return []api.Report{position(1, 600, 0, 20, 12), position(2, 605, 0, 20, 12), position(3, 602, 6, 20, 12)}
}

// P46.1
func TestCheck(t *testing.T) {
	for i, c := range []struct {
		s    api.NavState
		want api.Errno
	}{
		{state(), api.OK}, {api.NavState{Box: box(0, 0, 5, 5), Tick: api.MaxTick, Missed: 1000}, api.OK}, {api.NavState{}, api.OK},
		{api.NavState{Box: box(0, 0, -1, 5), Tick: -1}, api.ErrArg}, {api.NavState{Box: box(2_000_001, 0, 1, 5)}, api.ErrArg}, {api.NavState{Tick: -1}, api.ErrRange}, {api.NavState{Tick: api.MaxTick + 1}, api.ErrRange}, {api.NavState{Missed: -1}, api.ErrRange}, {api.NavState{Missed: 1001}, api.ErrRange},
	} {
		if e := Check(c.s); e != c.want {
			t.Errorf("case %d: %v", i, e)
		}
		if (Text(c.s) == "") != (c.want != api.OK) {
			t.Errorf("case %d: %q", i, Text(c.s))
		}
		if s, x, e := Step(c.s, api.NavInput{Tick: -5}); c.want != api.OK && (s != (api.NavState{}) || x != (api.Estimate{}) || e != c.want) {
			t.Errorf("case %d: Step %v", i, e)
		}
		if c.s.Missed != 0 {
			continue
		}
		s, e := Start(c.s.Box, c.s.Tick)
		if e != c.want || e == api.OK && s != c.s || e != api.OK && s != (api.NavState{}) {
			t.Errorf("case %d: Start %v, %v", i, s, e)
		}
	}
}

// P46.2
func TestStepErrors(t *testing.T) {
	for i, c := range []struct {
		change func(in *api.NavInput)
		want   api.Errno
	}{
		{func(in *api.NavInput) { in.Tick = 10; in.Required = -1 }, api.ErrTime}, {func(in *api.NavInput) { in.Tick = math.MinInt64 }, api.ErrTime}, {func(in *api.NavInput) { in.Tick = 11 }, api.OK},
		{func(in *api.NavInput) { in.Tick = api.MaxTick + 1; in.Reports = make([]api.Report, 9) }, api.ErrRange}, {func(in *api.NavInput) { in.Required = -1; in.Reports = make([]api.Report, 9) }, api.ErrRange}, {func(in *api.NavInput) { in.Required = api.MaxXY + 1 }, api.ErrRange}, {func(in *api.NavInput) { in.Required = api.MaxXY }, api.OK},
		{func(in *api.NavInput) { in.Reports = make([]api.Report, 9); in.Drift = -1 }, api.ErrLimit}, {func(in *api.NavInput) { in.Reports = make([]api.Report, 8) }, api.OK},
		{func(in *api.NavInput) { in.Drift = -1 }, api.ErrRange}, {func(in *api.NavInput) { in.Velocity.North = 2001 }, api.ErrRange}, {func(in *api.NavInput) { in.Tick = 10 + api.Day + 1 }, api.ErrRange},
	} {
		in := input()
		c.change(&in)
		s, x, e := Step(state(), in)
		if e != c.want || e != api.OK && (s != (api.NavState{}) || x != (api.Estimate{})) {
			t.Errorf("case %d: %v, %v, %v", i, s, x, e)
		}
	}
	full := state()
	full.Missed, full.Tick = MaxCoast, api.MaxTick-1
	s, _, e := Step(full, api.NavInput{Tick: api.MaxTick})
	if s.Missed != MaxCoast || e != api.OK {
		t.Errorf("Missed goes on to %d, %v", s.Missed, e)
	}
}

// P46.3, P46.4
func TestStep(t *testing.T) {
	old := append(three(), position(4, 9000, 0, 1, 11))
	wrong := append(three(), position(4, 900, 0, 20, 12))
	off := api.Report{Source: 9, Kind: api.PositionReport, Point: pt(900, 0), Bound: 1, Weight: 1, Tick: 12}
	near := api.Report{Source: 4, Kind: api.RangeReport, Point: pt(600, 100), Value: 5, Bound: 1, Weight: 1, Tick: 12} // too near: Rows has an error
	for i, c := range []struct {
		reports  []api.Report
		box      api.Box
		missed   int
		excluded int
	}{
		{nil, box(600, 0, 110, 110), 1, 0},
		{three(), box(602, 2, 22, 22), 0, 0},
		{old, box(602, 2, 22, 22), 0, 0},
		{append(three(), off, near), box(602, 2, 22, 22), 0, 0},
		{wrong, box(602, 2, 22, 22), 0, 4},
		{three()[:2], box(602, 0, 24, 22), 0, 0},
		{three()[:1], box(600, 0, 110, 110), 1, 0},
		{[]api.Report{position(1, 600, 0, 20, 12), position(2, 900, 0, 20, 12)}, box(600, 0, 110, 110), 1, 0},
		{[]api.Report{position(1, 900, 0, 20, 12), position(2, 900, 0, 20, 12)}, box(600, 0, 110, 110), 1, 0},
		{[]api.Report{position(1, 700, 0, 20, 12), position(2, 700, 0, 20, 12)}, box(695, 0, 15, 20), 0, 0},
	} {
		s, x, e := Step(state(), input(c.reports...))
		want := api.Estimate{Point: c.box.Center, LevelX: c.box.X, LevelY: c.box.Y, Usable: true, Excluded: c.excluded}
		if c.reports != nil && i == 5 { // what the layers below say of two sources
			var l []api.Meas
			for _, r := range c.reports {
				rows, _ := sensor.Rows(r, box(600, 0, 110, 110))
				l = append(l, rows...)
			}
			level, _ := integrity.Level(l)
			c.box, _ = inertial.Merge(box(600, 0, 110, 110), level)
			want = api.Estimate{Point: c.box.Center, LevelX: c.box.X, LevelY: c.box.Y, Usable: true}
		}
		if s != (api.NavState{Box: c.box, Tick: 12, Missed: c.missed}) || x != want || e != api.OK {
			t.Errorf("case %d: %v, %v, %v", i, s, x, e)
		}
	}
	in := input(three()...)
	for required, want := range map[int64]bool{22: true, 21: false, 0: false} {
		in.Required = required
		if _, x, _ := Step(state(), in); x.Usable != want {
			t.Errorf("required %d: %v", required, x)
		}
	}
	again := state()
	again.Missed = 5
	if s, _, _ := Step(again, input()); s.Missed != 6 {
		t.Errorf("Missed: %d", s.Missed)
	}
	for _, c := range []struct {
		x, y, required int64
		want           bool
	}{{5, 6, 6, true}, {5, 6, 5, false}, {6, 5, 5, false}, {0, 0, -1, false}} {
		if Usable(api.Estimate{LevelX: c.x, LevelY: c.y}, c.required) != c.want {
			t.Errorf("Usable %v", c)
		}
	}
}

// P46.5, P46.6
func TestSafety(t *testing.T) {
	x := uint64(46)
	next := func(low, high int64) int64 {
		x = x*6364136223846793005 + 1442695040888963407
		return low + int64(x>>33)%(high-low+1)
	}
	fixes, excluded := 0, 0
	for range 300 {
		p := pt(next(-300_000, 300_000), next(-300_000, 300_000))
		s, _ := Start(box(p.X+next(-500, 500), p.Y+next(-500, 500), 500, 500), 0)
		stations := []api.Point{pt(-500_000, 400_000), pt(600_000, 100_000), pt(0, -700_000)}
		faulty := int(next(0, 5))
		for range 12 {
			in := api.NavInput{Tick: s.Tick + next(1, 10), Velocity: api.Velocity{East: next(-600, 600), North: next(-600, 600)}, Drift: next(0, 20), Required: 300}
			ticks := in.Tick - s.Tick
			p.X += in.Velocity.East*ticks + next(-in.Drift*ticks, in.Drift*ticks)
			p.Y += in.Velocity.North*ticks + next(-in.Drift*ticks, in.Drift*ticks)
			for source := 1; source <= 5; source++ {
				r := api.Report{Source: source, Bound: next(2, 300), Weight: next(1, 16), Tick: in.Tick}
				off := next(-r.Bound, r.Bound)
				if source == faulty {
					off += next(-20_000, 20_000)
				}
				switch source {
				case 1, 2:
					r.Kind, r.Point = api.PositionReport, pt(p.X+off, p.Y+next(-r.Bound, r.Bound))
				case 3, 4:
					r.Kind, r.Point = api.RangeReport, stations[source-3]
					r.Value = max(0, line.Dist(r.Point, p)+off)
				case 5:
					r.Kind, r.Point, r.Bound = api.BearingReport, stations[2], r.Bound*1000
					c, _ := line.Course(r.Point, p)
					r.Value = angle.Norm(c + 900*off)
				}
				if source == faulty || sensor.Agrees(r, p) {
					in.Reports = append(in.Reports, r)
				}
			}
			coasted, _ := inertial.Coast(s.Box, in.Velocity, in.Drift, ticks)
			n, est, e := Step(s, in)
			if e != api.OK {
				t.Fatalf("%v", e)
			}
			if !sensor.Inside(n.Box, p) || est.Excluded != 0 && est.Excluded != faulty {
				t.Fatalf("%v is not in %v, or %d is excluded, not %d", p, n.Box, est.Excluded, faulty)
			}
			if n.Box.X > coasted.X || n.Box.Y > coasted.Y {
				t.Fatalf("%v is wider than %v", n.Box, coasted)
			}
			if n.Missed == 0 {
				fixes++
			}
			if est.Excluded != 0 {
				excluded++
			}
			more := slices.Clone(in.Reports)
			for i := range more {
				more[i].Tick--
				more[i].Point.X = 0
			}
			if len(more)+len(in.Reports) > 8 {
				more = more[:8-len(in.Reports)]
			}
			in.Reports = append(in.Reports, more...)
			if m, other, e := Step(s, in); m != n || other != est || e != api.OK {
				t.Fatalf("reports of other ticks change something: %v, %v", m, n)
			}
			s = n
		}
	}
	if fixes < 1000 || excluded < 100 {
		t.Errorf("only %d fixes, %d excluded", fixes, excluded)
	}
	if _, e := exclusion.Fault(nil); e != api.ErrRank {
		t.Errorf("no reports: %v", e)
	}
}

// P46.7
func TestText(t *testing.T) {
	for s, want := range map[string]api.NavState{"0 0 100 100 10 0": state(), "-2000000 2000000 0 2000000 1099511627776 1000": {Box: box(-2_000_000, 2_000_000, 0, 2_000_000), Tick: api.MaxTick, Missed: 1000}} {
		if got := Text(want); got != s {
			t.Errorf("Text(%v) = %q", want, got)
		}
		if got, e := Parse(s); got != want || e != api.OK {
			t.Errorf("Parse(%q) = %v, %v", s, got, e)
		}
	}
	for s, want := range map[string]api.Errno{"": api.ErrForm, "0 0 100 100 10": api.ErrForm, "0 0 100 100 10 0 0": api.ErrForm, "0  0 100 100 10 0": api.ErrForm, "0 0 100 100 10 0 ": api.ErrForm, "00 0 100 100 10 0": api.ErrForm, "-0 0 100 100 10 0": api.ErrForm, "+1 0 100 100 10 0": api.ErrForm, "0 0 1x0 100 10 0": api.ErrForm, "0 0 100 100 10 -": api.ErrForm, "0 0 100 100 1234567890123456 0": api.ErrForm, "0 0 -1 100 10 0": api.ErrArg, "2000001 0 1 100 -1 0": api.ErrArg, "0 0 100 100 -1 0": api.ErrRange, "0 0 100 100 123456789012345 0": api.ErrRange, "0 0 100 100 10 1001": api.ErrRange, "0 0 100 100 10 -1": api.ErrRange} {
		if got, e := Parse(s); got != (api.NavState{}) || e != want {
			t.Errorf("Parse(%q) = %v, %v", s, got, e)
		}
	}
}
