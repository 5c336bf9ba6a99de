package unit

import (
	"reflect"
	"slices"
	"strings"
	"testing"

	"flightdeck/airspeed"
	"flightdeck/api"
	"flightdeck/calendar"
	"flightdeck/fuel"
	"flightdeck/path"
	"flightdeck/predict"
	"flightdeck/sequence"
)

// P57.2
func TestCheck(t *testing.T) {
	for i, c := range []struct {
		change func(s *api.Setting)
		want   api.Errno
	}{
		{func(s *api.Setting) {}, api.OK},
		{func(s *api.Setting) { s.DBs[0].Header.Name = ""; s.Day = -1 }, api.ErrName}, {func(s *api.Setting) { s.DBs[0].Fixes[1] = s.DBs[0].Fixes[0] }, api.ErrExists},
		{func(s *api.Setting) { s.DBs[1].Fixes = make([]api.Fix, 5) }, api.OK}, {func(s *api.Setting) { s.DBs[1] = s.DBs[0] }, api.OK}, {func(s *api.Setting) { s.DBs[1] = s.DBs[0]; s.DBs[1].Header.Cycle++; s.Day = -1 }, api.ErrCycle}, {func(s *api.Setting) { s.DBs[1].Header.Name = "w" }, api.ErrName},
		{func(s *api.Setting) { s.Day = -1; s.Perf.Name = "" }, api.ErrRange}, {func(s *api.Setting) { s.Day = calendar.LastDay + 1 }, api.ErrRange}, {func(s *api.Setting) { s.Day = calendar.LastDay }, api.OK},
		{func(s *api.Setting) { s.Perf.Name = ""; s.Grid.Cell = -1 }, api.ErrName}, {func(s *api.Setting) { s.Grid = api.Grid{}; s.Options.Speed = 0 }, api.ErrLimit},
		{func(s *api.Setting) { s.Empty = -1; s.Box.X = -1 }, api.ErrRange}, {func(s *api.Setting) { s.Empty = api.MaxMass + 1 }, api.ErrRange}, {func(s *api.Setting) { s.Empty = 0; s.Reserve = 0 }, api.OK}, {func(s *api.Setting) { s.Reserve = -1 }, api.ErrRange}, {func(s *api.Setting) { s.Reserve = api.MaxMass + 1 }, api.ErrRange},
		{func(s *api.Setting) { s.Options.Gradient = 0; s.Box.X = -1 }, api.ErrRange}, {func(s *api.Setting) { s.Box.X = -1; s.Required = 0 }, api.ErrArg}, {func(s *api.Setting) { s.Box.Center.X = api.MaxXY + 1 }, api.ErrArg},
		{func(s *api.Setting) { s.Required = 0 }, api.ErrRange}, {func(s *api.Setting) { s.Required = 20*api.NM + 1 }, api.ErrRange}, {func(s *api.Setting) { s.Required = 20 * api.NM }, api.OK}, {func(s *api.Setting) { s.Level = api.MinAlt - 1 }, api.ErrRange}, {func(s *api.Setting) { s.Level = api.MaxAlt + 1 }, api.ErrRange}, {func(s *api.Setting) { s.CAS = 0 }, api.ErrRange}, {func(s *api.Setting) { s.CAS = api.MaxSpeed + 1 }, api.ErrRange}, {func(s *api.Setting) { s.Mach = 0 }, api.ErrRange}, {func(s *api.Setting) { s.Mach = airspeed.MaxMach + 1 }, api.ErrRange},
		{func(s *api.Setting) { s.Accel = -1 }, api.ErrRange}, {func(s *api.Setting) { s.Accel = api.MaxSpeed + 1 }, api.ErrRange}, {func(s *api.Setting) { s.Decel = -1 }, api.ErrRange}, {func(s *api.Setting) { s.Decel = api.MaxSpeed + 1 }, api.ErrRange}, {func(s *api.Setting) { s.Accel, s.Decel = 0, 0 }, api.OK}, {func(s *api.Setting) { s.LimitAlt = api.MinAlt - 1 }, api.ErrRange}, {func(s *api.Setting) { s.LimitAlt = api.MaxAlt + 1 }, api.ErrRange}, {func(s *api.Setting) { s.LimitSpeed = 0 }, api.ErrRange}, {func(s *api.Setting) { s.LimitSpeed = api.MaxSpeed + 1 }, api.ErrRange},
		{func(s *api.Setting) { s.Bank = 0 }, api.ErrRange}, {func(s *api.Setting) { s.Bank = api.MaxBank + 1 }, api.ErrRange}, {func(s *api.Setting) { s.Roll = 0 }, api.ErrRange}, {func(s *api.Setting) { s.Roll = api.MaxBank + 1 }, api.ErrRange}, {func(s *api.Setting) { s.Roll, s.Bank = api.MaxBank, api.MaxBank }, api.OK},
	} {
		s := setting(t)
		c.change(&s)
		if e := Check(s); e != c.want {
			t.Errorf("case %d: %v", i, e)
		}
		if u, e := New(s); e != c.want || (u == nil) != (e != api.OK) {
			t.Errorf("New, case %d: %v", i, e)
		}
	}
}

// P57.3, P57.9
func TestNew(t *testing.T) {
	s := setting(t)
	u, e := New(s)
	if e != api.OK {
		t.Fatal(e)
	}
	want := api.View{Active: api.Plan{Active: -1}, Targets: api.Targets{Lateral: api.LatRoll, Vertical: api.VertHold, Phase: api.PhasePreflight}, Alt: 2_000_000, Name: "WEST", Cycle: 2612}
	if v := u.View(); !reflect.DeepEqual(v, want) {
		t.Errorf("%+v", v)
	}
	if u.nav.Box != s.Box || u.nav.Tick != 0 || u.hold != 0 {
		t.Errorf("the state: %v", u.nav)
	}
	before := u.Save()
	s.DBs[0].Fixes[0].Ident = "X"
	s.DBs[0].Procedures[0].Parts[0].Legs[0].Fix = "X"
	s.DBs[0].Airways[0].Points[0].Ref = "X"
	s.Perf.Climb[0][0] = 1
	s.Perf.Alts[0] = 1
	s.Grid.Alts[0] = 1
	if digest(u.set) != u.digest || !slices.Equal(before, u.Save()) {
		t.Errorf("the setting shares memory")
	}
}

// P57.3: the nodes and the prediction
func TestPrediction(t *testing.T) {
	s := setting(t)
	r := newRig(t, s)
	r.s.Alt, r.s.Velocity = 100_000, api.Velocity{East: 100, North: 250}
	r.at = pt(300, -200)
	r.cycle()
	r.do("ROUTE KAAA A/K1 B/K1 C/K1 KBBB", "EDIT ALT 2 10000+", "EDIT SPD 2 210", "EDIT SPD 3 230", "EXEC")
	v := r.u.View()
	if r.u.past.track != 7_848_507 {
		t.Errorf("the course %d", r.u.past.track)
	}
	p := v.Active
	p.Active = -1
	built, _, e := path.Build(p, pt(300, -200), r.u.past.track, s.Options)
	if e != api.OK || !reflect.DeepEqual(built, r.u.flight.path) {
		t.Fatalf("another path: %v", e)
	}
	nodes := []api.Node{{At: pt(300, -200), Alt: api.Window{Lo: 100_000, Hi: 100_000}, Speed: api.Window{Hi: api.MaxSpeed}}}
	speeds := map[int]int64{1: api.MaxSpeed, 2: 210, 3: 230, 4: api.MaxSpeed}
	for entry := 1; entry <= 4; entry++ {
		n := api.Node{Alt: v.Active.Entries[entry].Leg.Alt, Speed: api.Window{Hi: speeds[entry]}}
		for _, x := range built.Elements {
			if x.Entry == entry {
				n.At = x.B
				n.Dist += x.Length
			}
		}
		nodes = append(nodes, n)
	}
	if nodes[2].Alt.Lo != 1_000_000 {
		t.Errorf("the window: %v", nodes[2].Alt)
	}
	account, _ := fuel.New(s.Empty, r.s.Fuel, s.Reserve)
	want, e := predict.Run(api.Setup{Nodes: nodes, Perf: s.Perf, Grid: s.Grid, Fuel: account, Level: s.Level, CAS: s.CAS, Mach: s.Mach, Accel: s.Accel, Decel: s.Decel, LimitAlt: s.LimitAlt, LimitSpeed: s.LimitSpeed})
	if e != api.OK || len(want.Passages) != 5 || !reflect.DeepEqual(v.Prediction, want) {
		t.Errorf("another prediction: %v, %v", e, v.Prediction)
	}
	if !slices.Equal(v.Entries, []int{1, 2, 3, 4}) || v.Active.Active != 1 {
		t.Errorf("entries %v, active %d", v.Entries, v.Active.Active)
	}
	left, e := sequence.ToGo(built, v.Progress, v.Estimate.Point)
	if v.Left != left || left == 0 || e != api.OK {
		t.Errorf("left: %d", v.Left)
	}
	r.do("EDIT DELETE 3", "EXEC") // only up to the gap
	if v := r.u.View(); len(v.Active.Entries) != 5 || !slices.Equal(v.Entries, []int{1, 2}) || len(v.Prediction.Passages) != 3 || len(r.u.flight.path.Elements) == 0 {
		t.Errorf("with a gap: %v, %d passages", v.Entries, len(v.Prediction.Passages))
	}
}

// P57.3: the errors of the prediction
func TestNoPrediction(t *testing.T) {
	for i, c := range []struct {
		change   func(s *api.Setting, r *rig)
		route    []string
		want     api.Errno
		conflict api.Conflict
		speeds   bool
	}{
		{func(s *api.Setting, r *rig) {}, []string{"ROUTE KAAA A/K1 KBBB"}, api.OK, api.Conflict{}, false},
		{func(s *api.Setting, r *rig) { s.Empty = 0 }, []string{"ROUTE KAAA A/K1 KBBB"}, api.ErrRange, api.Conflict{}, false},
		{func(s *api.Setting, r *rig) { r.s.Fuel = 1_000_000 }, []string{"ROUTE KAAA A/K1 KBBB"}, api.ErrRange, api.Conflict{}, false},
		{func(s *api.Setting, r *rig) { r.s.Fuel = 2_500_000 }, []string{"ROUTE KAAA A/K1 KBBB"}, api.ErrFuel, api.Conflict{}, false},
		{func(s *api.Setting, r *rig) {}, []string{"ROUTE KAAA A/K1 KBBB", "EDIT ALT 1 19000+", "EDIT ALT 2 0", "EDIT INSERT 2 D/K1", "EDIT ALT 2 19000+"}, api.ErrConflict, api.Conflict{I: 0, J: 1}, false},
		{func(s *api.Setting, r *rig) {}, []string{"ROUTE KAAA A/K1 KBBB", "EDIT SPD 1 50"}, api.ErrConflict, api.Conflict{I: 1, J: 1}, true},
	} {
		s := setting(t)
		r := newRig(t, s)
		c.change(&s, r)
		fresh := newRig(t, s)
		fresh.s = r.s
		r = fresh
		r.cycle()
		r.do(c.route...)
		r.do("EXEC")
		v := r.u.View()
		if r.u.flight.trouble != c.want || v.Prediction.Trouble != c.conflict || v.Prediction.Speeds != c.speeds || (len(v.Prediction.Passages) > 0) != (c.want == api.OK) || len(v.Entries) == 0 {
			t.Errorf("case %d: %v, %+v", i, r.u.flight.trouble, v.Prediction)
		}
		if e := r.u.Do("PATH"); (e == api.OK) != (c.want == api.OK) {
			t.Errorf("case %d: PATH: %v", i, e)
		}
	}
	r := newRig(t, setting(t)) // a plan without a way
	r.do("ROUTE KAAA KAAA", "EXEC")
	v := r.u.View()
	if r.u.flight.trouble != api.ErrNone || len(v.Active.Entries) != 1 || v.Active.Active != -1 || v.Progress != (api.Progress{}) || v.Left != 0 || len(v.Entries) != 0 || len(v.Prediction.Passages) != 0 {
		t.Errorf("without elements: %+v", v)
	}
}

// P57.9
func TestView(t *testing.T) {
	r := newRig(t, setting(t))
	r.cycle()
	r.do(long, "EXEC", "EDIT DELETE 3", "HDG 90", "ALT 5000", "VS -700", "SPD 210", "PATH")
	r.s.Command = "NONSENSE"
	targets := r.cycle()
	v := r.u.View()
	if v.Heading != 90*api.Degree || v.Alt != 500_000 || v.VS != -700 || v.Speed != 210 || !v.Armed || v.Last != api.ErrForm || v.Tick != 20 || v.Name != "WEST" || v.Cycle != 2612 || v.Targets != targets || v.Required != 6000 {
		t.Errorf("%+v", v)
	}
	if !v.HasTemp || reflect.DeepEqual(v.Temp, v.Active) || v.Estimate.Point != pt(0, 0) || !v.Estimate.Usable || len(v.Alerts) != 0 {
		t.Errorf("%+v", v)
	}
	want := r.u.View()
	v.Active.Entries[0].Via = "X"
	v.Temp.Entries[0].Via = "X"
	v.Prediction.Passages[0].Alt = 1
	v.Entries[0] = 99
	if again := r.u.View(); !reflect.DeepEqual(again, want) {
		t.Errorf("memory is shared")
	}
}

// P1: a nil computer, and one that is zero
func TestNil(t *testing.T) {
	for _, u := range []*Unit{nil, {}} {
		if u.Do("NAV") != api.ErrArg || u.Load(nil) != api.ErrArg || u.Save() != nil || u.Cycle([]api.Sense{{}}) != (api.Targets{}) || u.Step(1, []byte{1, 0, 0}) != (api.Targets{}) || !reflect.DeepEqual(u.View(), api.View{}) {
			t.Errorf("a nil computer")
		}
	}
	if strings.Contains(source, "\r") {
		t.Errorf("the source")
	}
}
