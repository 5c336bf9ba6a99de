package unit

import (
	"bytes"
	"reflect"
	"slices"
	"testing"

	"flightdeck/agree"
	"flightdeck/angle"
	"flightdeck/api"
	"flightdeck/lateral"
	"flightdeck/modes"
	"flightdeck/vertical"
)

// P57.5: which inputs count
func TestInputs(t *testing.T) {
	good := func(tick int64, alt int64, command string) api.Sense {
		return api.Sense{Tick: tick, Alt: alt, Command: command, Drift: 1000, Ground: true, Reports: reports(pt(0, 0), tick)}
	}
	bad := api.Sense{Tick: -1}
	for i, c := range []struct {
		senses []api.Sense
		tick   int64
		alt    int64
		last   api.Errno
		speed  int64
	}{
		{nil, 0, 0, api.OK, 0}, {[]api.Sense{bad, bad}, 0, 0, api.OK, 0}, {[]api.Sense{good(10, 500, "")}, 10, 500, api.OK, 0}, {[]api.Sense{bad, good(10, 500, "SPD 210"), bad, good(20, 700, "SPD 220"), good(30, 900, "SPD 230")}, 10, 500, api.OK, 220}, {[]api.Sense{good(10, 500, "X"), good(20, 700, "SPD 220")}, 10, 500, api.OK, 220}, {[]api.Sense{good(10, 500, "SPD 220"), good(20, 700, "X")}, 10, 500, api.ErrForm, 220}, {[]api.Sense{good(10, 500, "X"), good(20, 700, "")}, 10, 500, api.ErrForm, 0},
	} {
		r := newRig(t, setting(t))
		r.do("GA")
		before := r.u.Save()
		got := r.u.Cycle(c.senses)
		v := r.u.View()
		if v.Tick != c.tick || v.Last != c.last || v.Speed != c.speed || v.Targets != got || c.tick > 0 && got.Alt != c.alt {
			t.Errorf("case %d: %+v", i, v)
		}
		if c.tick == 0 && !bytes.Equal(before, r.u.Save()) {
			t.Errorf("case %d: something has changed", i)
		}
		if c.tick > 0 && r.u.keys != 0 {
			t.Errorf("case %d: keys %x", i, r.u.keys)
		}
	}
}

// P57.5: the reports of both inputs
func TestReports(t *testing.T) {
	r := newRig(t, setting(t))
	one := api.Sense{Tick: 10, Drift: 1000}
	two := api.Sense{Tick: 10, Drift: 1000, Reports: reports(pt(100, 0), 10)}
	r.u.Cycle([]api.Sense{one})
	if v := r.u.View(); v.Estimate.LevelX <= 20 {
		t.Errorf("no reports: %v", v.Estimate)
	}
	one.Tick = 20
	two.Tick, two.Reports = 99, reports(pt(100, 0), 20)
	r.u.Cycle([]api.Sense{one, two})
	if v := r.u.View(); v.Estimate != (api.Estimate{Point: pt(100, 0), LevelX: 20, LevelY: 20, Usable: true}) || v.Tick != 20 {
		t.Errorf("three reports: %v", v.Estimate)
	}
	// With all eight reports source 4 is excluded, which four reports of the first computer alone do not tell.
	one.Tick, two.Tick = 30, 30
	one.Reports = append(reports(pt(100, 0), 30)[:1], api.Report{Source: 4, Kind: api.PositionReport, Point: pt(5000, 0), Bound: 20, Weight: 1, Tick: 30})
	two.Reports = reports(pt(100, 0), 30)
	r.u.Cycle([]api.Sense{one, two})
	if v := r.u.View(); v.Estimate.Excluded != 4 {
		t.Errorf("a wrong one of the first computer: %v", v.Estimate)
	}
	one.Tick, two.Tick = 40, 40
	one.Reports, two.Reports = reports(pt(100, 0), 40), one.Reports
	two.Reports[1].Tick = 40
	r.u.Cycle([]api.Sense{one, two})
	if v := r.u.View(); v.Estimate.Excluded != 4 {
		t.Errorf("a wrong one of the second computer: %v", v.Estimate)
	}
}

// P57.5: Step
func TestStep(t *testing.T) {
	one, _ := Encode(api.Sense{Tick: 10, Alt: 500, Drift: 1000, Ground: true})
	two, _ := Encode(api.Sense{Tick: 20, Alt: 700, Drift: 1000, Ground: true})
	for i, c := range []struct {
		one, two     []byte
		isOne, isTwo bool
		tick         int64
	}{{one, two, true, true, 10}, {one, two, false, true, 20}, {one, two, true, false, 10}, {one, two, false, false, 0}, {one[1:], two, true, true, 20}, {nil, two[1:], true, true, 0}} {
		r := newRig(t, setting(t))
		in, _ := agree.Pack(c.one, c.isOne, c.two, c.isTwo)
		if got := r.u.Step(77, in); r.u.View().Tick != c.tick || got != r.u.View().Targets {
			t.Errorf("case %d: %d", i, r.u.View().Tick)
		}
		if got := r.u.Step(78, append(in, 0)); r.u.View().Tick != c.tick || got != r.u.View().Targets {
			t.Errorf("case %d: a malformed set", i)
		}
	}
}

// P57.5: the required performance, and navigation with an error
func TestNavigation(t *testing.T) {
	s := setting(t)
	r := newRig(t, s)
	r.do(long, "EDIT RNP 1 0+600", "EDIT RNP 2 0", "EXEC")
	r.cycle()
	if v := r.u.View(); v.Required != 600 || !v.Estimate.Usable {
		t.Errorf("%v, %d", v.Estimate, v.Required)
	}
	before := r.u.nav
	tick := r.s.Tick
	r.u.Cycle([]api.Sense{{Tick: tick, Alt: 40, Drift: 1000, Reports: reports(pt(5, 0), tick)}})
	if v := r.u.View(); r.u.nav != before || v.Estimate != (api.Estimate{}) || v.Tick != tick || !slices.Contains(v.Alerts, "NAV UNUSABLE") {
		t.Errorf("the same tick again: %v", v.Estimate)
	}
	r.s.Tick += 10
	r.u.Cycle([]api.Sense{{Tick: r.s.Tick, Drift: 90}}) // coasts by 900 units
	if v := r.u.View(); v.Estimate.Usable || v.Estimate.LevelX != 920 || r.u.nav.Missed != 1 {
		t.Errorf("coasting: %v", v.Estimate)
	}
	r.move(pt(1352, 122_968)) // the active leg is the next one
	r.cycle()
	if v := r.u.View(); v.Required != 6000 || v.Active.Active != 2 {
		t.Errorf("the next leg: %d, %d", v.Required, v.Active.Active)
	}
}

// P57.5: passing legs
func TestPassing(t *testing.T) {
	r := newRig(t, setting(t))
	r.cycle()
	r.do(long, "EXEC", "EDIT SPD 4 200")
	actives := []int{1}
	way := []api.Point{pt(0, 116_741), pt(1352, 122_968), pt(79_627, 294_760), pt(80_170, 305_846), pt(809, 537_760), pt(0, 542_621), pt(0, 714_285), pt(0, 600_000)}
	for _, p := range way {
		r.move(p)
		v := r.u.View()
		if actives[len(actives)-1] != v.Active.Active {
			actives = append(actives, v.Active.Active)
		}
		if !v.HasTemp || v.Temp.Active != v.Active.Active && v.Active.Active < 4 {
			t.Errorf("the temporary plan: active %d", v.Temp.Active)
		}
	}
	if !slices.Equal(actives, []int{1, 2, 3, 4, 6}) {
		t.Errorf("active legs: %v", actives)
	}
	r.move(pt(0, 540_000))
	if v := r.u.View(); !v.Progress.Done || v.Left != 0 || !slices.Contains(v.Alerts, "END OF ROUTE") || v.Active.Active != 6 {
		t.Errorf("at the end: %+v", v)
	}
}

// P57.6: the conditions
func TestConditions(t *testing.T) {
	for i, c := range []struct {
		change func(r *rig)
		want   uint32
	}{
		{func(r *rig) {}, modes.Ready | modes.Zone | modes.Above},
		{func(r *rig) { r.s.Ground, r.s.Thrust = true, true }, modes.Ground | modes.Thrust | modes.Ready | modes.Zone | modes.Above},
		{func(r *rig) { r.s.Ground, r.s.Stopped = true, true }, modes.Ground | modes.Stopped | modes.Ready | modes.Zone | modes.Above},
		{func(r *rig) { r.s.Stopped = true }, modes.Ready | modes.Zone | modes.Above},
		{func(r *rig) { r.do("NAV", "HOLD", "GA", "CHG") }, modes.Nav | modes.Hold | modes.Go | modes.Change | modes.Ready | modes.Zone | modes.Above},
		{func(r *rig) { r.do("HDG 5", "VS 100") }, modes.Heading | modes.Speed | modes.Ready | modes.Zone | modes.Above},
		{func(r *rig) { r.at = pt(12_000, 30_000) }, modes.Ready | modes.Zone | modes.Above}, {func(r *rig) { r.at = pt(12_001, 30_000) }, modes.Ready | modes.Above}, {func(r *rig) { r.at = pt(-12_000, 30_000) }, modes.Ready | modes.Zone | modes.Above}, {func(r *rig) { r.at = pt(-12_001, 30_000) }, modes.Ready | modes.Above},
		{func(r *rig) { r.u.set.Required = 19 }, modes.Above},
		{func(r *rig) { r.s.Alt = 1_500_000 }, modes.Ready | modes.Zone | modes.Accel}, {func(r *rig) { r.s.Alt = 150_000 }, modes.Ready | modes.Zone | modes.Above | modes.Accel}, {func(r *rig) { r.s.Alt = 149_999 }, modes.Ready | modes.Zone | modes.Above}, {func(r *rig) { r.s.Alt, r.s.Ground = 150_000, true }, modes.Ready | modes.Zone | modes.Above | modes.Ground},
		{func(r *rig) { r.s.Alt = 1_980_000 }, modes.Ready | modes.Zone | modes.Accel | modes.Level}, {func(r *rig) { r.s.Alt = 1_979_999 }, modes.Ready | modes.Zone | modes.Accel}, {func(r *rig) { r.s.Alt = 2_020_000 }, modes.Ready | modes.Zone | modes.Accel | modes.Level}, {func(r *rig) { r.s.Alt = 2_020_001 }, modes.Ready | modes.Zone | modes.Accel},
		{func(r *rig) { r.s.Alt = 998_000 }, modes.Ready | modes.Zone | modes.Accel | modes.Above | modes.At | modes.Near}, {func(r *rig) { r.s.Alt = 997_999 }, modes.Ready | modes.Zone | modes.Accel | modes.Above}, {func(r *rig) { r.s.Alt = 1_002_000 }, modes.Ready | modes.Zone | modes.Accel | modes.At | modes.Near}, {func(r *rig) { r.s.Alt = 1_002_001 }, modes.Ready | modes.Zone | modes.Accel}, {func(r *rig) { r.s.Alt = 1_000_000 }, modes.Ready | modes.Zone | modes.Accel | modes.At | modes.Near},
		{func(r *rig) { r.s.Alt, r.s.VS = 984_000, 1000 }, modes.Ready | modes.Zone | modes.Accel | modes.Above | modes.Near}, {func(r *rig) { r.s.Alt, r.s.VS = 984_000, -1000 }, modes.Ready | modes.Zone | modes.Accel | modes.Above}, {func(r *rig) { r.s.Alt, r.s.VS = 983_999, 1000 }, modes.Ready | modes.Zone | modes.Accel | modes.Above},
		{func(r *rig) { r.do("PATH") }, modes.Ready | modes.Zone | modes.Above}, {func(r *rig) { r.do("PATH"); r.s.Alt = 216_000 }, modes.Ready | modes.Zone | modes.Above | modes.Accel | modes.Take}, {func(r *rig) { r.do("PATH"); r.s.Alt = 260_000 }, modes.Ready | modes.Zone | modes.Above | modes.Accel}, {func(r *rig) { r.do("PATH"); r.s.Alt = 216_000; r.u.set.Required = 5 }, modes.Above | modes.Accel},
	} {
		r := newRig(t, setting(t))
		r.cycle()
		r.do("ROUTE KAAA A/K1 V1 C KBBB", "EXEC", "ALT 10000")
		r.s.Alt = 100_000
		r.at = pt(0, 30_000)
		c.change(r)
		r.u.nav.Box.Center = r.at // it is found there
		if held := r.seen(); held != c.want {
			t.Errorf("case %d: %b in place of %b", i, held, c.want)
		}
	}
}

// seen returns the conditions of the next cycle.
func (r *rig) seen() uint32 {
	r.s.Tick += 10
	r.s.Reports = reports(r.at, r.s.Tick)
	r.u.navigate(r.s, r.s.Reports)
	return r.u.conditions(r.u.look(r.s))
}

// P57.6: without a path, in the approach, and behind the top of descent
func TestMoreConditions(t *testing.T) {
	r := newRig(t, setting(t))
	if got := r.seen(); got != modes.Above {
		t.Errorf("without a path: %b", got)
	}
	r = newRig(t, setting(t))
	r.cycle()
	r.do("ROUTE KAAA A/K1 KBBB", "EDIT ALT 2 0", "EXEC")
	passages := r.u.View().Prediction.Passages
	if passages[1].Phase != 1 || passages[2].Phase != 3 {
		t.Fatalf("%+v", passages)
	}
	r.s.Alt = 300_000
	total := r.u.flight.nodes[1].Dist
	for _, c := range []struct {
		at   api.Point
		want bool
	}{{pt(0, 1000), false}, {pt(0, total-1), false}, {pt(0, total), true}, {pt(0, total+1), true}} {
		r.u.nav.Box.Center, r.at = c.at, c.at
		if got := r.seen()&modes.Down != 0; got != c.want {
			t.Errorf("at %v: %v", c.at, got)
		}
	}
	end := r.u.flight.nodes[1].Dist + r.u.flight.nodes[2].Dist
	r.u.nav.Box.Center, r.at = pt(0, end), pt(0, end)
	if got := r.seen(); got&(modes.Down|modes.Ready) != 0 {
		t.Errorf("at the end: %b", got)
	}
	r = newRig(t, setting(t))
	r.cycle()
	r.do(long, "EXEC")
	r.move(pt(0, 119_000))
	if got := r.seen(); got&modes.Final != 0 {
		t.Errorf("far from the approach: %b", got)
	}
	r.do("EDIT DIRECT 4", "EXEC")
	if got := r.seen(); got&modes.Final == 0 || got&modes.Ready == 0 {
		t.Errorf("in the approach: %b", got)
	}
	r = newRig(t, setting(t)) // beyond a gap there is no target altitude
	r.cycle()
	r.do(long, "EDIT DELETE 2", "EXEC", "PATH")
	r.s.Alt = 300_000
	if got := r.seen(); got&modes.Ready == 0 || got&modes.Take != 0 {
		t.Errorf("with a gap: %b", got)
	}
}

// P57.6: the marks, and the path that is armed
func TestMarks(t *testing.T) {
	r := newRig(t, setting(t))
	r.cycle()
	r.do("ROUTE KAAA A/K1 V1 C KBBB", "EXEC", "NAV", "ALT 15000")
	r.climb(300_000)
	r.at = pt(0, 6000)
	if got := r.cycle(); got.Lateral != api.LatNav {
		t.Fatalf("%v", got)
	}
	lost := func() { // no estimate: the tick of navigation is not older
		r.s.Reports = nil
		r.u.Cycle([]api.Sense{r.s})
	}
	lost()
	if v := r.u.View(); v.Targets.Lateral != api.LatHeading || !slices.Contains(v.Alerts, "LATERAL REVERSION") {
		t.Errorf("%v, %v", v.Targets, v.Alerts)
	}
	if r.cycle(); !slices.Contains(r.u.View().Alerts, "LATERAL REVERSION") {
		t.Errorf("the mark is gone")
	}
	r.do("NAV")
	if got := r.cycle(); got.Lateral != api.LatNav || len(r.u.View().Alerts) != 0 {
		t.Errorf("the mark stays: %v", r.u.View().Alerts)
	}
	alt, _ := vertical.Target(r.u.flight.prediction, r.u.flight.dists(), 6000)
	r.do("PATH")
	r.climb(alt)
	if got := r.cycle(); got.Vertical != api.VertPath || r.u.View().Armed {
		t.Errorf("the path: %v, %v", got, r.u.View().Armed)
	}
	lost()
	if v := r.u.View(); v.Targets.Vertical != api.VertHold || !slices.Contains(v.Alerts, "VERTICAL REVERSION") || !slices.Contains(v.Alerts, "LATERAL REVERSION") {
		t.Errorf("%v, %v", v.Targets, v.Alerts)
	}
	if r.cycle(); !slices.Contains(r.u.View().Alerts, "VERTICAL REVERSION") {
		t.Errorf("the mark is gone")
	}
	r.do("CHG")
	if got := r.cycle(); got.Vertical != api.VertClimb || slices.Contains(r.u.View().Alerts, "VERTICAL REVERSION") {
		t.Errorf("the mark stays: %v", r.u.View().Alerts)
	}
	r.climb(1_497_000)
	r.s.VS = 1000
	if got := r.cycle(); got.Vertical != api.VertCapture {
		t.Errorf("%v", got)
	}
	r.climb(1_520_000)
	if got := r.cycle(); got.Vertical != api.VertDescend || !slices.Contains(r.u.View().Alerts, "ALTITUDE OVERSHOT") {
		t.Errorf("%v, %v", got, r.u.View().Alerts)
	}
	if r.cycle(); !slices.Contains(r.u.View().Alerts, "ALTITUDE OVERSHOT") {
		t.Errorf("the mark is gone")
	}
	r.do("HOLD")
	if got := r.cycle(); got.Vertical != api.VertHold || slices.Contains(r.u.View().Alerts, "ALTITUDE OVERSHOT") {
		t.Errorf("%v, %v", got, r.u.View().Alerts)
	}
}

// P57.7: the bank
func TestBank(t *testing.T) {
	s := setting(t)
	s.Roll = 3000
	r := newRig(t, s)
	r.cycle()
	r.climb(300_000)
	r.do("HDG 30")
	heading := lateral.Command(0, angle.Diff(30*api.Degree, 0), 0, 2500)
	if got := r.cycle(); got.Lateral != api.LatHeading || got.Bank != heading || heading != 1500 {
		t.Errorf("heading: %v", got)
	}
	r.do("ROUTE KAAA A/K1 V1 C KBBB", "EXEC", "NAV")
	r.s.Velocity = api.Velocity{East: 250}
	r.u.nav.Box.Center = pt(20_000, 5000)
	r.at = pt(20_000, 5000)
	r.cycle()
	r.u.nav.Box.Center = r.at
	if got := r.cycle(); got.Lateral != api.LatArmed || got.Bank != lateral.Command(0, angle.Diff(30*api.Degree, 90*api.Degree), 0, 2500) {
		t.Errorf("armed: %v", got)
	}
	r.u.nav.Box.Center = pt(10_000, 5000)
	r.at = pt(10_000, 5000)
	r.s.Velocity = api.Velocity{East: -100, North: 250}
	x := r.u.flight.path.Elements[0]
	track := angle.Norm(-7_848_507)
	off, turned, nominal, _ := lateral.Errors(x, r.at, track, 269)
	if got := r.cycle(); got.Lateral != api.LatNav || got.Bank != lateral.Command(off, turned, nominal, 2500) || got.Bank == 0 || turned == 0 {
		t.Errorf("nav: %v, %d", got, lateral.Command(off, turned, nominal, 2500))
	}
	r.do("GA")
	if got := r.cycle(); got.Lateral != api.LatGoAround || got.Bank != 0 {
		t.Errorf("go around: %v", got)
	}
	s.Roll = 100
	r = newRig(t, s)
	r.climb(300_000)
	r.do("HDG 30")
	for want := int64(100); want <= 500; want += 100 {
		if got := r.cycle(); got.Bank != want {
			t.Errorf("roll: %v", got)
		}
	}
	r.s.Ground = true
	if got := r.cycle(); got.Lateral != api.LatRoll || got.Bank != 400 {
		t.Errorf("on the ground: %v", got)
	}
	r = newRig(t, setting(t)) // on an arc the nominal bank counts
	r.cycle()
	r.do("ROUTE KAAA A/K1 V1 C KBBB", "EXEC", "NAV")
	r.climb(300_000)
	r.u.nav.Box.Center, r.at = pt(0, 117_000), pt(0, 117_000)
	r.s.Velocity = api.Velocity{North: 200}
	_, _, nominal, _ = lateral.Errors(r.u.flight.path.Elements[1], r.at, 0, 200)
	for range 8 {
		r.u.nav.Box.Center = r.at
		r.cycle()
	}
	if got := r.u.targets.Bank; nominal < 1000 || got < nominal-100 || got > nominal+100 {
		t.Errorf("on the arc: %d, nominal %d", got, nominal)
	}
}

// P57.7: altitudes and vertical speeds
func TestVertical(t *testing.T) {
	r := newRig(t, setting(t))
	r.s.Ground, r.s.Alt = true, 40_000
	if got := r.cycle(); got.Alt != 40_000 || got.VS != 0 || got.Speed != 280 || r.u.hold != 40_000 {
		t.Errorf("on the ground: %v", got)
	}
	r.do("SPD 160")
	if got := r.cycle(); got.Speed != 160 {
		t.Errorf("on the ground: %v", got)
	}
	r.climb(40_500)
	if got := r.cycle(); got.Alt != 40_000 || got.VS != -32 || got.Vertical != api.VertHold || got.Speed != 160 {
		t.Errorf("hold: %v", got)
	}
	r.do("HOLD", "SPD 0")
	r.climb(41_000)
	if got := r.cycle(); got.Alt != 41_000 || got.VS != 0 || got.Speed != 280 {
		t.Errorf("hold here: %v", got)
	}
	r.do("CHG", "ALT 3000")
	for i := range int64(60) {
		if got := r.cycle(); got.Vertical != api.VertClimb || got.Alt != 300_000 || got.VS != min(40+40*i, 2000) {
			t.Fatalf("climb %d: %v", i, got)
		}
	}
	r.climb(290_000)
	r.s.VS = 2000
	for range 40 {
		r.cycle()
	}
	if got := r.u.targets; got.Vertical != api.VertCapture || got.Alt != 300_000 || got.VS != 625 {
		t.Errorf("capture: %v", got)
	}
	r.climb(298_500)
	if got := r.cycle(); got.Vertical != api.VertHold || got.Alt != 300_000 || got.VS != 585 {
		t.Errorf("at the altitude: %v", got)
	}
	r.climb(299_500)
	r.do("VS -800")
	r.do("ALT 1000")
	for range 40 {
		r.cycle()
	}
	if got := r.u.targets; got.Vertical != api.VertSpeed || got.Alt != 100_000 || got.VS != -800 {
		t.Errorf("vertical speed: %v", got)
	}
	r.do("CHG")
	r.s.VS = -800
	for range 40 {
		r.cycle()
	}
	if got := r.u.targets; got.Vertical != api.VertDescend || got.Alt != 100_000 || got.VS != -2000 {
		t.Errorf("descend: %v", got)
	}
	r.do("GA")
	for range 100 {
		r.cycle()
	}
	if got := r.u.targets; got.Vertical != api.VertGoAround || got.Alt != 100_000 || got.VS != 1500 {
		t.Errorf("go around: %v", got)
	}
}

// P57.7: from a capture the selected altitude is held, with or without the key.
func TestCaptured(t *testing.T) {
	for _, key := range []bool{false, true} {
		r := newRig(t, setting(t))
		r.climb(290_000)
		r.do("ALT 3000", "CHG")
		r.s.VS = 2000
		r.cycle()
		if got := r.cycle(); got.Vertical != api.VertCapture {
			t.Fatalf("%v", got)
		}
		r.climb(298_900)
		if key {
			r.climb(295_000)
			r.do("HOLD")
		}
		if got := r.cycle(); got.Vertical != api.VertHold || got.Alt != 300_000 {
			t.Errorf("%v: %v", key, got)
		}
	}
	r := newRig(t, setting(t))
	r.climb(290_000)
	r.do("CHG")
	r.cycle()
	r.climb(291_000)
	r.do("HOLD")
	if got := r.cycle(); got.Vertical != api.VertHold || got.Alt != 291_000 {
		t.Errorf("from a climb: %v", got)
	}
}

// P57.7: along the vertical path
func TestSteer(t *testing.T) {
	r := newRig(t, setting(t))
	r.cycle()
	r.do("ROUTE KAAA A/K1 V1 C KBBB", "EXEC", "NAV", "PATH", "ALT 15000")
	r.at = pt(0, 30_000)
	r.u.nav.Box.Center = r.at
	f := &r.u.flight
	alt, _ := vertical.Target(f.prediction, f.dists(), 30_000)
	r.climb(alt + 300)
	got := r.cycle()
	target, vs, speed, e := vertical.Steer(f.prediction, f.dists(), 30_000, 250, alt+300, 0)
	if got.Vertical != api.VertPath || got.Alt != target || got.VS != vs || got.Speed != speed || e != api.OK || target != alt || speed != 250 {
		t.Errorf("%v in place of %d, %d, %d", got, target, vs, speed)
	}
	_, vs, _, _ = vertical.Steer(f.prediction, f.dists(), 30_000, 250, alt+300, got.VS)
	r.do("SPD 230")
	if got = r.cycle(); got.VS != vs || got.Speed != 230 {
		t.Errorf("%v in place of %d", got, vs)
	}
	r.do("SPD 0")
	before := got.VS
	f.prediction = api.Prediction{}
	if got = r.cycle(); got.Vertical != api.VertPath || got.Alt != r.s.Alt || got.VS != before-40 || got.Speed != 280 {
		t.Errorf("without a prediction: %v", got)
	}
}

// P57.8
func TestAlerts(t *testing.T) {
	for i, c := range []struct {
		change func(s *api.Setting)
		then   func(r *rig)
		want   []string
	}{
		{nil, func(r *rig) { r.cycle() }, nil},
		{nil, func(r *rig) { r.u.Cycle([]api.Sense{{Tick: 10, Drift: 1000, Fuel: 20_000_000}}) }, []string{"NAV UNUSABLE"}},
		{nil, func(r *rig) { r.s.Fuel = 1_999_999; r.cycle() }, []string{"FUEL LOW"}}, {nil, func(r *rig) { r.s.Fuel = 2_000_000; r.cycle() }, nil},
		{func(s *api.Setting) { s.Day = s.DBs[0].Header.From - 1 }, func(r *rig) { r.cycle() }, []string{"DATABASE EXPIRED"}}, {func(s *api.Setting) { s.Day = s.DBs[0].Header.To }, func(r *rig) { r.cycle() }, []string{"DATABASE EXPIRED"}}, {func(s *api.Setting) { s.Day = s.DBs[0].Header.To - 1 }, func(r *rig) { r.cycle() }, nil},
		{nil, func(r *rig) { r.cycle(); r.do("ROUTE KAAA A/K1 KBBB", "EDIT SPD 1 50", "EXEC"); r.cycle() }, []string{"CONSTRAINTS CONFLICT"}},
		{nil, func(r *rig) { r.s.Fuel = 2_500_000; r.cycle(); r.do("ROUTE KAAA A/K1 KBBB", "EXEC"); r.cycle() }, []string{"FUEL SHORT"}},
		{nil, func(r *rig) { r.s.Fuel = 8_000_000; r.cycle(); r.do("ROUTE KAAA A/K1 V1 C KBBB", "EXEC"); r.cycle() }, []string{"FUEL SHORT"}},
		{nil, func(r *rig) {
			r.s.Fuel = 1_000_000_000
			r.cycle()
			r.do("ROUTE KAAA A/K1 KBBB", "EXEC")
			r.cycle()
		}, nil},
		{nil, func(r *rig) {
			r.s.Tick += 10
			l := append(reports(pt(0, 0), r.s.Tick)[:3], api.Report{Source: 4, Kind: api.PositionReport, Point: pt(9000, 0), Bound: 20, Weight: 1, Tick: r.s.Tick})
			r.u.Cycle([]api.Sense{{Tick: 10, Drift: 1000, Fuel: 20_000_000, Reports: l}})
		}, []string{"SENSOR EXCLUDED"}},
	} {
		s := setting(t)
		if c.change != nil {
			c.change(&s)
		}
		r := newRig(t, s)
		r.s.Ground = true
		c.then(r)
		if got := r.u.View().Alerts; !slices.Equal(got, c.want) {
			t.Errorf("case %d: %v", i, got)
		}
	}
	r := newRig(t, setting(t)) // a gap on the way, with the top of descent ahead of it
	r.cycle()
	r.do("ROUTE KAAA A/K1 B/K1 C/K1 D/K1 KBBB", "EDIT DELETE 3", "EDIT ALT 2 0", "EXEC")
	r.climb(300_000)
	r.cycle()
	r.move(pt(0, 118_000))
	r.move(pt(1352, 122_968))
	if got := r.u.board.Holding(); !slices.Equal(got, []int{13}) {
		t.Errorf("behind the top of descent: %v, %v", got, r.u.View().Targets)
	}
	r.move(pt(82_104, 300_195))
	if got := r.u.View().Alerts; !slices.Equal(got, []string{"DISCONTINUITY"}) || !r.u.View().Progress.Done {
		t.Errorf("at the gap: %v", got)
	}
	r.do("ACK")
	if got := r.u.View().Alerts; len(got) != 0 {
		t.Errorf("ACK: %v", got)
	}
	if r.cycle(); len(r.u.View().Alerts) != 0 {
		t.Errorf("ACK: %v", r.u.View().Alerts)
	}
}

// P57.11
func TestLimits(t *testing.T) {
	x := uint32(1)
	next := func(n int) int {
		x = x*1664525 + 1013904223
		return int(x>>8) % n
	}
	commands := []string{"NAV", "CHG", "HOLD", "GA", "PATH", "ACK", "HDG 10", "HDG 200", "VS 3000", "VS -2500", "ALT 9000", "ALT 100", "SPD 0", "SPD 200", "EDIT DIRECT 3", "EDIT DELETE 3", "EXEC", "UNDO", "ERASE", long}
	for range 20 {
		r := newRig(t, setting(t))
		r.cycle()
		r.do(long, "EXEC")
		last, active := r.u.targets, r.u.View().Active
		ground := false
		for range 100 {
			r.s.Command = ""
			if next(3) == 0 {
				r.s.Command = commands[next(len(commands))]
			}
			r.s.Ground = next(20) == 0
			r.at = pt(r.at.X+int64(next(4000)-1000), r.at.Y+int64(next(8000)-500))
			r.s.Alt, r.s.VS = min(max(r.s.Alt+int64(next(40_000)-19_000), 0), 3_000_000), int64(next(4000)-2000)
			r.s.Velocity = api.Velocity{East: int64(next(400) - 200), North: int64(next(400) - 100)}
			got := r.cycle()
			if bank := got.Bank - last.Bank; bank < -500 || bank > 500 || got.Bank < -2500 || got.Bank > 2500 {
				t.Fatalf("bank %d behind %d", got.Bank, last.Bank)
			}
			if vs := got.VS - last.VS; !r.s.Ground && !ground && (vs < -vertical.Jerk || vs > vertical.Jerk) {
				t.Fatalf("vertical speed %d behind %d", got.VS, last.VS)
			}
			plan := r.u.View().Active
			if r.s.Command != "EXEC" && (!reflect.DeepEqual(plan.Entries, active.Entries) || plan.Active < active.Active) {
				t.Fatalf("%q changes the active plan", r.s.Command)
			}
			last, active, ground = got, plan, r.s.Ground
		}
	}
}
