package unit

import (
	"reflect"
	"slices"
	"testing"

	"flightdeck/api"
	"flightdeck/edit"
	"flightdeck/history"
	"flightdeck/modes"
	"flightdeck/path"
	"flightdeck/plan"
	"flightdeck/route"
)

// P57.4: the forms and the errors of commands
func TestForms(t *testing.T) {
	for _, c := range []struct {
		command string
		want    api.Errno
	}{
		{"", api.ErrForm}, {" ", api.ErrForm}, {"NAV ", api.ErrForm}, {" NAV", api.ErrForm}, {"nav", api.ErrForm}, {"NAV NAV", api.ErrForm}, {"EDIT", api.ErrForm}, {"EDIT ", api.ErrForm}, {"EDIT  DELETE 1", api.ErrForm}, {"ROUTE", api.ErrForm}, {"ROUTE ", api.ErrForm}, {"HDG", api.ErrForm}, {"HDG ", api.ErrForm}, {"HDG 9 ", api.ErrForm}, {"HDG  9", api.ErrForm}, {"FLY 5", api.ErrForm}, {"EXEC 1", api.ErrForm}, {"ACK 1", api.ErrForm},
		{"EDIT DELETE 1", api.ErrNone}, {"EDIT DELETE 61", api.ErrForm}, {"ROUTE KAAA XXX/K1 KBBB", api.ErrNone}, {"ROUTE KAAA", api.ErrForm}, {"UNDO", api.ErrNone}, {"REDO", api.ErrNone}, {"ERASE", api.ErrState}, {"EXEC", api.ErrState}, {"SWAP", api.ErrNone},
		{"HDG -1", api.ErrRange}, {"HDG 360", api.ErrRange}, {"HDG 359", api.OK}, {"HDG 0", api.OK}, {"HDG 07", api.ErrForm}, {"ALT x", api.ErrForm}, {"ALT 60001", api.ErrRange}, {"ALT 60000", api.OK}, {"ALT -2000", api.OK}, {"VS 6001", api.ErrRange}, {"VS -6001", api.ErrRange}, {"VS 6000", api.OK}, {"VS -6000", api.OK}, {"VS +5", api.ErrForm}, {"SPD -1", api.ErrRange}, {"SPD 1001", api.ErrRange}, {"SPD 1000", api.OK}, {"SPD 0", api.OK},
		{"NAV", api.OK}, {"CHG", api.OK}, {"HOLD", api.OK}, {"GA", api.OK}, {"PATH", api.ErrState}, {"ACK", api.OK}, {"ROUTE KAAA A/K1 KBBB", api.OK},
	} {
		r := newRig(t, setting(t))
		before := r.u.View()
		keys := r.u.keys
		if e := r.u.Do(c.command); e != c.want || r.u.View().Last != c.want {
			t.Errorf("%q: %v, %v", c.command, e, r.u.View().Last)
		}
		if v := r.u.View(); c.want != api.OK {
			v.Last = api.OK
			if !reflect.DeepEqual(v, before) || r.u.keys != keys {
				t.Errorf("%q changes something", c.command)
			}
		}
	}
	r := newRig(t, setting(t))
	r.u.Do("X")
	if r.do("NAV"); r.u.View().Last != api.OK {
		t.Errorf("the error stays: %v", r.u.View().Last)
	}
}

// P57.4: the selections, and the keys
func TestKeys(t *testing.T) {
	for _, c := range []struct {
		command string
		key     uint32
		want    selections
	}{
		{"HDG 270", modes.Heading, selections{270 * api.Degree, 2_000_000, 0, 0, false}}, {"ALT 12000", 0, selections{0, 1_200_000, 0, 0, false}}, {"ALT -100", 0, selections{0, -10_000, 0, 0, false}}, {"VS -900", modes.Speed, selections{0, 2_000_000, -900, 0, false}}, {"SPD 230", 0, selections{0, 2_000_000, 0, 230, false}},
		{"NAV", modes.Nav, selections{alt: 2_000_000}}, {"CHG", modes.Change, selections{alt: 2_000_000}}, {"HOLD", modes.Hold, selections{alt: 2_000_000}}, {"GA", modes.Go, selections{alt: 2_000_000}},
	} {
		r := newRig(t, setting(t))
		r.u.Do(c.command)
		if r.u.keys != c.key || r.u.picked != c.want {
			t.Errorf("%s: keys %x, %v", c.command, r.u.keys, r.u.picked)
		}
		if r.u.Cycle(nil); r.u.keys != c.key {
			t.Errorf("%s: released without a cycle", c.command)
		}
		if r.cycle(); r.u.keys != 0 || r.u.picked != c.want {
			t.Errorf("%s: not released", c.command)
		}
	}
	r := newRig(t, setting(t))
	r.do("NAV", "GA")
	if r.u.keys != modes.Nav|modes.Go {
		t.Errorf("two keys: %x", r.u.keys)
	}
}

// P57.4: the plans
func TestPlans(t *testing.T) {
	s := setting(t)
	r := newRig(t, s)
	h, _ := history.New(api.Plan{Active: -1})
	same := func(step string) {
		t.Helper()
		v := r.u.View()
		temp, has := h.Temp()
		if !plan.Same(v.Active, h.Active()) || v.HasTemp != has || !plan.Same(v.Temp, temp) {
			t.Errorf("after %s: %+v", step, v)
		}
	}
	p, _, _ := route.Expand(s.DBs[0], "KAAA A/K1 V1 C P=I36 KBBB/RW36")
	r.do(long)
	h.Replace(p)
	same("ROUTE")
	for _, text := range []string{"SPD 2 250", "DELETE 3", "INSERT 3 D/K1"} {
		x, _ := edit.Parse(text)
		r.do("EDIT " + text)
		if e := h.Do(s.DBs[0], x); e != api.OK {
			t.Fatal(e)
		}
		same(text)
	}
	r.do("UNDO", "UNDO", "REDO")
	h.Undo()
	h.Undo()
	h.Redo()
	same("UNDO")
	r.do("EXEC")
	h.Execute()
	h.Advance(r.u.View().Progress.Entry)
	same("EXEC")
	r.do("EDIT SPD 2 230", "ERASE")
	same("ERASE")
	if e := r.u.Do("EDIT DELETE 0"); e != api.ErrState {
		t.Errorf("the error of the edit: %v", e)
	}
}

// P57.4: EXEC
func TestExecute(t *testing.T) {
	s := setting(t)
	r := newRig(t, s)
	r.do(long, "EXEC") // before the first cycle
	v := r.u.View()
	if b := r.u.flight.begin; b != (beginning{active: -1}) || v.Progress != (api.Progress{Entry: 1}) || v.Active.Active != 1 || r.u.flight.trouble != api.ErrRange {
		t.Errorf("the beginning: %+v, %+v, %v", b, v.Progress, r.u.flight.trouble)
	}
	r = newRig(t, s)
	r.at = pt(1200, -700)
	r.s.Velocity = api.Velocity{East: -100}
	r.s.Alt = 77_000
	r.cycle()
	r.do(long)
	r.s.Alt, r.s.Fuel, r.s.Velocity, r.at, r.s.Command = 99_000, 5, api.Velocity{East: 9}, pt(1300, 0), "EXEC"
	r.cycle() // EXEC in a cycle takes what the cycle before it had
	if b := r.u.flight.begin; b != (beginning{pt(1200, -700), 270 * api.Degree, 77_000, 20_000_000, -1}) {
		t.Errorf("the beginning: %+v", b)
	}
	r.s.Command = ""
	r.move(pt(0, 118_000))
	r.move(pt(1400, 123_100))
	v = r.u.View()
	if v.Active.Active != 2 || v.Progress.Entry != 2 {
		t.Fatalf("active %d, %+v", v.Active.Active, v.Progress)
	}
	r.do("EDIT SPD 3 200", "EXEC")
	if b := r.u.flight.begin; b.active != 2 || r.u.View().Progress != (api.Progress{Entry: 2}) || r.u.View().Active.Active != 2 {
		t.Errorf("on the way: %+v, %+v", b, r.u.View().Progress)
	}
	r.do("EDIT DIRECT 4")
	wrong := r.u.history.Active()
	temp, _ := r.u.history.Temp()
	if temp.Active != 0 || wrong.Active != 2 {
		t.Errorf("DIRECT: %d", temp.Active)
	}
	r.do("EXEC")
	if r.u.View().Active.Active != 0 {
		t.Errorf("DIRECT: active %d", r.u.View().Active.Active)
	}
}

// P57.4: EXEC with an error of the path
func TestExecuteErrors(t *testing.T) {
	s := setting(t)
	s.DBs[0] = database(t, source+"DEPARTURE KAAA OUT1\nPART COMMON\nLEG IF KAAA/K1\nLEG RF C/K1 @A/K1 R r5\n")
	r := newRig(t, s)
	r.cycle()
	r.do("ROUTE KAAA A/K1 C/K1 KBBB", "EXEC", "PATH")
	r.do("ROUTE KAAA D=OUT1 C/K1 KBBB")
	temp, _ := r.u.history.Temp()
	_, _, want := path.Build(temp, pt(0, 0), 0, s.Options)
	if want == api.OK {
		t.Fatal("the path has no error")
	}
	if e := r.u.Do("EXEC"); e != want || r.u.View().Last != want {
		t.Errorf("EXEC: %v", e)
	}
	v := r.u.View()
	if !plan.Same(v.Active, temp) || v.HasTemp || v.Progress != (api.Progress{}) || v.Left != 0 || len(v.Entries) != 0 || !reflect.DeepEqual(v.Prediction, api.Prediction{}) || !v.Armed || v.Active.Active != -1 {
		t.Errorf("%+v", v)
	}
	if e := r.u.Do("PATH"); e != api.ErrState {
		t.Errorf("PATH: %v", e)
	}
}

// P57.4: SWAP
func TestSwap(t *testing.T) {
	s := setting(t)
	s.DBs[1] = s.DBs[0]
	s.DBs[1].Fixes = slices.Clone(s.DBs[0].Fixes)
	s.DBs[1].Header.Name = "EAST"
	r := newRig(t, s)
	r.do("SWAP")
	if v := r.u.View(); v.Name != "EAST" {
		t.Errorf("SWAP: %s", v.Name)
	}
	r.do("SWAP")
	if v := r.u.View(); v.Name != "WEST" {
		t.Errorf("and back: %s", v.Name)
	}
	r.do(long)
	if e := r.u.Do("SWAP"); e != api.ErrState || r.u.View().Name != "WEST" {
		t.Errorf("with a temporary plan: %v", e)
	}
	r.do("ERASE")
	for _, c := range []struct {
		alt  int64
		want api.Errno
	}{{0, api.ErrState}, {200_000, api.ErrState}} {
		r.climb(c.alt)
		r.cycle()
		if e := r.u.Do("SWAP"); e != c.want {
			t.Errorf("in the air: %v", e)
		}
	}
	r.s.Ground, r.s.Alt = true, 0
	r.cycle()
	if phase := r.u.View().Targets.Phase; phase != api.PhaseLanded {
		t.Errorf("phase %d", phase)
	}
	r.do("SWAP")
	for i, c := range []struct {
		change func(s *api.Setting)
		want   api.Errno
	}{
		{func(s *api.Setting) { s.DBs[1] = api.DB{} }, api.ErrNone}, {func(s *api.Setting) { s.DBs[1] = database(t, "DATABASE WEST 2613 N46000000W120000000") }, api.ErrCycle}, {func(s *api.Setting) { s.DBs[1] = database(t, "DATABASE WEST 2612 N46000000W120000000") }, api.ErrConflict}, {func(s *api.Setting) { s.Day = s.DBs[0].Header.To }, api.ErrCycle}, {func(s *api.Setting) { s.Day = s.DBs[0].Header.From - 1 }, api.ErrCycle}, {func(s *api.Setting) { s.Day = s.DBs[0].Header.To - 1 }, api.OK},
	} {
		s := setting(t)
		s.DBs[1] = s.DBs[0]
		c.change(&s)
		r := newRig(t, s)
		r.do(long, "EXEC")
		if e := r.u.Do("SWAP"); e != c.want {
			t.Errorf("case %d: %v", i, e)
		}
	}
	s = setting(t) // edits take the current database
	s.DBs[1] = database(t, source+"WAYPOINT X K1 N46300000W120000000\n")
	r = newRig(t, s)
	if e := r.u.Do("ROUTE KAAA X/K1 KBBB"); e != api.ErrNone {
		t.Errorf("X is known: %v", e)
	}
	r.do("SWAP", "ROUTE KAAA X/K1 KBBB")
}
