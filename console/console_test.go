package console

import (
	"math"
	"math/rand"
	"reflect"
	"slices"
	"testing"

	"flightdeck/agree"
	"flightdeck/api"
	"flightdeck/maintlog"
	"flightdeck/resync"
	"flightdeck/simulator"
	"flightdeck/unit"
)

// P60.1
func TestCheck(t *testing.T) {
	good := scenario(t)
	if e := Check(good); e != api.OK {
		t.Fatal(e)
	}
	edge := good
	edge.Rates = [4]int64{0, api.MaxAlt, 0, api.MaxAlt}
	edge.Sensors = nil
	if e := Check(edge); e != api.OK {
		t.Fatal(e)
	}
	for i, x := range []struct {
		change func(s *api.Scenario)
		want   api.Errno
	}{
		{func(s *api.Scenario) { s.Rates[0] = -1 }, api.ErrRange},
		{func(s *api.Scenario) { s.Rates[1] = api.MaxAlt + 1 }, api.ErrRange},
		{func(s *api.Scenario) { s.Rates[2] = math.MinInt64 }, api.ErrRange},
		{func(s *api.Scenario) { s.Rates[3] = math.MaxInt64 }, api.ErrRange},
		{func(s *api.Scenario) { s.Rates[3], s.Sensors = -1, make([]api.Sensor, 9) }, api.ErrLimit},
		{func(s *api.Scenario) { s.Sensors, s.Craft.Point.X = make([]api.Sensor, 9), api.MaxXY+1 }, api.ErrArg},
		{func(s *api.Scenario) { s.Craft.Point.X, s.Setting.Day = api.MaxXY+1, -1 }, api.ErrRange},
		{func(s *api.Scenario) { s.Craft.Tick, s.Setting.Box.X = -1, -1 }, api.ErrArg},
		{func(s *api.Scenario) { *s = api.Scenario{} }, unit.Check(api.Setting{})},
	} {
		s := good
		x.change(&s)
		if e := Check(s); e != x.want {
			t.Errorf("%d: %v, not %v", i, e, x.want)
		}
		if n, e := New(s); n != nil || e != x.want || e == api.OK {
			t.Errorf("%d: New %v", i, e)
		}
	}
}

// P60.1: the beginning
func TestNew(t *testing.T) {
	s := scenario(t)
	x := begin(t, s)
	u, _ := unit.New(s.Setting)
	if x.Craft() != s.Craft || len(x.Faults()) > 0 || len(x.Record()) > 0 || !reflect.DeepEqual(x.View(1), u.View()) || !reflect.DeepEqual(x.View(2), u.View()) {
		t.Errorf("%v %v", x.Craft(), x.View(1))
	}
}

// P60.1: what becomes of the scenario behind New does not matter
func TestNewKeepsNothing(t *testing.T) {
	s, fresh := scenario(t), scenario(t)
	x, y := begin(t, s), begin(t, fresh)
	clear(s.Sensors)
	for i := range s.Setting.Perf.Cruise {
		clear(s.Setting.Perf.Cruise[i])
	}
	clear(s.Setting.Perf.Alts)
	clear(s.Setting.Perf.Masses)
	clear(s.Setting.DBs[0].Fixes)
	clear(s.Setting.Grid.Winds)
	w := world{Rand: rand.New(rand.NewSource(1)), sensors: fresh.Sensors, mild: true}
	for range 30 {
		h := w.happening()
		cycle(t, x, h)
		cycle(t, y, h)
	}
	same(t, x, y)
}

// model is a system that is put together from the layers below, as the document tells.
type model struct {
	s        api.Scenario
	craft    api.Craft
	units    [2]*unit.Unit
	pair     *resync.Pair
	log      *maintlog.Log
	status   [2]byte
	excluded int
}

func newModel(t *testing.T, s api.Scenario) *model {
	m := &model{s: s, craft: s.Craft, status: [2]byte{agree.Off, agree.Off}}
	m.units[0], _ = unit.New(s.Setting)
	m.units[1], _ = unit.New(s.Setting)
	m.pair, _ = resync.NewPair(m.units[0], m.units[1], resync.Rates{Bank: s.Rates[0], Speed: s.Rates[1], Alt: s.Rates[2], VS: s.Rates[3]})
	memory, _ := maintlog.NewMemory(32)
	m.log, _ = maintlog.Open(memory)
	return m
}

func (m *model) cycle(t *testing.T, h api.Happening) api.Summary {
	craft, e := simulator.Fly(m.craft, m.s.Setting.Perf, m.s.Setting.Empty, m.pair.InUse(), h.Moment)
	if e != api.OK {
		t.Fatal(e)
	}
	m.craft = craft
	var inputs [2][]byte
	for i := range inputs {
		sense, _, _ := simulator.Sense(craft, m.s.Sensors, i+1, h.Moment)
		inputs[i], _ = unit.Encode(sense)
	}
	r := m.pair.Cycle(inputs[0], inputs[1], resync.Events{Stop: h.Stop, Restart: h.Restart, Corrupt: h.Corrupt, Wrong: h.Wrong, Fates: h.Fates})
	phase := max(r.InUse.Phase, api.PhasePreflight)
	for i, status := range r.Status {
		if status != agree.Valid && status != m.status[i] {
			m.log.Append(int64(100*(i+1)+int(status)), phase, craft.Tick)
		}
	}
	m.status = r.Status
	if r.Source > 0 {
		if x := m.units[r.Source-1].View().Estimate.Excluded; x != m.excluded {
			m.excluded = x
			if x != 0 {
				m.log.Append(int64(300+x), phase, craft.Tick)
			}
		}
	}
	return api.Summary{Cycle: r.Cycle, Tick: craft.Tick, Role: r.Role, Status: r.Status, Steps: r.Steps, Targets: r.Targets, Source: r.Source, InUse: r.InUse}
}

// P60.2, P60.3
func TestCycle(t *testing.T) {
	for seed := range int64(6) {
		s := scenario(t)
		x, m := begin(t, s), newModel(t, s)
		w := world{Rand: rand.New(rand.NewSource(seed)), sensors: s.Sensors, mild: seed == 0}
		for i := range 200 {
			h := w.happening()
			got, want := cycle(t, x, h), m.cycle(t, h)
			if got != want || got.Cycle != int64(i+1) || got.Tick != int64(10*(i+1)) || x.Craft() != m.craft {
				t.Fatalf("seed %d: %v, not %v", seed, got, want)
			}
			if !reflect.DeepEqual(x.View(1), m.units[0].View()) || !reflect.DeepEqual(x.View(2), m.units[1].View()) {
				t.Fatalf("seed %d, cycle %d: the views", seed, i)
			}
		}
		if !slices.Equal(x.Faults(), m.log.Faults()) || len(x.Faults()) < 3 {
			t.Errorf("seed %d: %v, not %v", seed, x.Faults(), m.log.Faults())
		}
	}
}

// P60.2: the faults of a flight, by hand
func TestFaults(t *testing.T) {
	s := scenario(t)
	x := begin(t, s)
	quiet := func(n int) {
		for range n {
			cycle(t, x, api.Happening{})
		}
	}
	quiet(100)
	start := x.Faults()
	for _, f := range start {
		if f.Phase < api.PhasePreflight || f.Code/100 < 1 || f.Code/100 > 2 || f.Code%100 == int64(agree.Valid) {
			t.Errorf("%v", f)
		}
	}
	if len(start) == 0 || start[0].Tick != 10 || start[0].Code/100 != 1 {
		t.Errorf("%v", start)
	}
	wrong := api.Happening{Moment: api.Moment{Errors: [][2]int64{{50_000, 0}}}}
	cycle(t, x, wrong)
	cycle(t, x, wrong)
	quiet(1)
	cycle(t, x, wrong)
	quiet(1)
	cycle(t, x, api.Happening{Stop: [2]bool{false, true}})
	quiet(3)
	type entry struct{ code, tick int64 }
	var got []entry
	for _, f := range x.Faults()[len(start):] {
		got = append(got, entry{f.Code, f.Tick})
	}
	want := []entry{{301, 1010}, {301, 1040}, {100 + int64(agree.Single), 1060}, {200 + int64(agree.Off), 1060}}
	if !slices.Equal(got, want) {
		t.Errorf("%v, not %v", got, want)
	}
	if l := x.Faults(); l[len(l)-1].Phase != x.pair.InUse().Phase {
		t.Errorf("%v", l)
	}
}

// P60.2: both computers do not run, so nothing is in use, and nothing is excluded
func TestDark(t *testing.T) {
	x := begin(t, scenario(t))
	dark := api.Happening{Stop: [2]bool{true, true}, Moment: api.Moment{Errors: [][2]int64{{50_000, 0}}}}
	for i := range 5 {
		r := cycle(t, x, dark)
		if r.Source != 0 || r.Status != [2]byte{agree.Off, agree.Off} || r.InUse != (api.Targets{}) || x.Craft().CAS != 240-10*int64(i) {
			t.Fatalf("%v", r)
		}
	}
	if len(x.Faults()) > 0 { // Off is the status ahead of the first cycle
		t.Errorf("%v", x.Faults())
	}
	lost := [2][4]api.Fate{{{Lost: true}}, {{Lost: true}}}
	r := cycle(t, x, api.Happening{Restart: [2]bool{true, true}, Fates: lost})
	want := []api.Fault{{Code: 102, Phase: api.PhasePreflight, Tick: 60, Number: 1}, {Code: 202, Phase: api.PhasePreflight, Tick: 60, Number: 2}}
	if r.Source != 0 || !slices.Equal(x.Faults(), want) {
		t.Errorf("%v %v", r, x.Faults())
	}
}

// P60.2: a cycle that cannot be changes nothing
func TestCycleError(t *testing.T) {
	s := scenario(t)
	x, y := begin(t, s), begin(t, s)
	for range 20 {
		cycle(t, x, api.Happening{})
		cycle(t, y, api.Happening{})
		for _, m := range []api.Moment{{Wind: api.Wind{East: 201}}, {Commands: [2]string{"\n", "NAV"}}} {
			r, e := x.Cycle(api.Happening{Moment: m, Stop: [2]bool{true, true}})
			if e != simulator.CheckMoment(m) || r != (api.Summary{}) {
				t.Fatalf("%v %v", r, e)
			}
		}
		same(t, x, y)
	}
	if x.Craft().Tick != 200 || len(x.Record()) != 20 {
		t.Errorf("%v", x.Craft())
	}
	far := scenario(t)
	far.Craft.Point = pt(0, api.MaxXY)
	z := begin(t, far)
	if _, e := z.Cycle(api.Happening{}); e != api.ErrRange || z.Craft() != far.Craft || len(z.Record()) > 0 {
		t.Errorf("%v", e)
	}
}

// P60.2: reports that cannot be made leave the rest of the input; P60.3: no memory in common
func TestShares(t *testing.T) {
	s := scenario(t)
	x, y := begin(t, s), begin(t, s)
	w := world{Rand: rand.New(rand.NewSource(3)), sensors: s.Sensors}
	for range 60 {
		h := w.happening()
		cycle(t, y, h)
		cycle(t, x, h)
		clear(h.Moment.Errors)
		for _, k := range x.Record() {
			clear(k.Moment.Errors)
		}
		clear(x.Record())
		clear(x.Faults())
		for computer := 1; computer <= 2; computer++ {
			v := x.View(computer)
			clear(v.Active.Entries)
			clear(v.Temp.Entries)
			clear(v.Alerts)
			clear(v.Entries)
			clear(v.Prediction.Passages)
		}
	}
	same(t, x, y)
	for _, computer := range []int{0, 3, -1, math.MaxInt} {
		if !reflect.DeepEqual(x.View(computer), api.View{}) {
			t.Errorf("computer %d", computer)
		}
	}
}

// P60.4
func TestReplay(t *testing.T) {
	s := scenario(t)
	for seed := range int64(3) {
		x := begin(t, s)
		w := world{Rand: rand.New(rand.NewSource(100 + seed)), sensors: s.Sensors}
		for i := range 120 {
			cycle(t, x, w.happening())
			if i%17 != 0 {
				continue
			}
			y, at, e := Replay(s, x.Record())
			if e != api.OK || at != 0 {
				t.Fatal(at, e)
			}
			same(t, x, y)
		}
		y, _, _ := Replay(s, x.Record())
		for range 40 { // the future is the same, too
			h := w.happening()
			if a, b := cycle(t, x, h), cycle(t, y, h); a != b {
				t.Fatalf("%v and %v", a, b)
			}
		}
		same(t, x, y)
	}
}

// P60.4: errors
func TestReplayErrors(t *testing.T) {
	s := scenario(t)
	bad := api.Happening{Moment: api.Moment{Slip: api.Velocity{East: 21}}}
	if x, at, e := Replay(s, []api.Happening{{}, {}, bad, {}, {Moment: api.Moment{Errors: make([][2]int64, 9)}}}); x != nil || at != 2 || e != api.ErrRange {
		t.Errorf("%v %d %v", x, at, e)
	}
	if x, at, e := Replay(s, []api.Happening{bad}); x != nil || at != 0 || e != api.ErrRange {
		t.Errorf("%v %d %v", x, at, e)
	}
	if x, at, e := Replay(s, nil); e != api.OK || at != 0 || x.Craft() != s.Craft {
		t.Errorf("%d %v", at, e)
	}
	s.Rates[2] = -1
	if x, at, e := Replay(s, []api.Happening{bad}); x != nil || at != 0 || e != api.ErrRange {
		t.Errorf("%v %d %v", x, at, e)
	}
	if x, at, e := Replay(api.Scenario{}, nil); x != nil || at != 0 || e != unit.Check(api.Setting{}) {
		t.Errorf("%v %d %v", x, at, e)
	}
}

// P60.7
func TestAgreement(t *testing.T) {
	valid, inside := 0, 0
	for seed := range int64(10) {
		s := scenario(t)
		x := begin(t, s)
		w := world{Rand: rand.New(rand.NewSource(700 + seed)), sensors: s.Sensors, mild: seed < 2}
		for range 300 {
			h := w.happening()
			r := cycle(t, x, h)
			if r.Status == [2]byte{agree.Valid, agree.Valid} {
				valid++
				if r.Targets[0] != r.Targets[1] {
					t.Fatalf("%v", r)
				}
			}
			if l := simulator.Faulty(x.Craft(), s.Sensors, h.Moment); len(l) > 1 {
				t.Fatalf("faulty: %v", l)
			}
			for i, steps := range r.Steps {
				estimate := x.View(i + 1).Estimate
				if steps != r.Cycle || estimate == (api.Estimate{}) {
					continue
				}
				inside++
				east, north := x.Craft().Point.X-estimate.Point.X, x.Craft().Point.Y-estimate.Point.Y
				if max(east, -east) > estimate.LevelX || max(north, -north) > estimate.LevelY {
					t.Fatalf("seed %d, %v: %v is not in %v", seed, r, x.Craft(), estimate)
				}
			}
		}
	}
	if valid < 300 || inside < 300 {
		t.Errorf("only %d and %d cycles", valid, inside)
	}
}

// Of a nil and of a zero System
func TestNone(t *testing.T) {
	for _, x := range []*System{nil, {}} {
		r, e := x.Cycle(api.Happening{})
		if r != (api.Summary{}) || e != api.ErrArg || x.Craft() != (api.Craft{}) || !reflect.DeepEqual(x.View(1), api.View{}) || len(x.Faults()) > 0 || len(x.Record()) > 0 {
			t.Errorf("%v %v", r, e)
		}
		if x.Do("STATE") != "ERROR 1" || x.Do("") != "ERROR 1" || x.Run("STATE") != "" {
			t.Errorf("%q %q", x.Do("STATE"), x.Run("STATE"))
		}
	}
}
