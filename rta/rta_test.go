package rta

import (
	"math"
	"reflect"
	"slices"
	"testing"

	"flightdeck/api"
	"flightdeck/predict"
	"flightdeck/profile"
	"flightdeck/speedplan"
	"flightdeck/windgrid"
)

func w(lo, hi int64) api.Window { return api.Window{Lo: lo, Hi: hi} }

func tables() api.Perf {
	return api.Perf{Name: "TEST", Empty: 60_000_000, MaxFuel: 40_000_000, Alts: []int64{0, 4_000_000}, Masses: []int64{60_000_000, 100_000_000},
		Climb: [][]int64{{4000, 3000}, {1000, 500}}, ClimbFlow: [][]int64{{6000, 7000}, {4000, 4500}}, Cruise: [][]int64{{3000, 3600}, {2000, 2500}},
		Descent: []int64{1500, 2500}, Idle: []int64{900, 600}, MaxSpeed: []int64{340, 300}, MinSpeed: []int64{1, 1}, Ref: 300, Extra: 3, Ceiling: 4_100_000}
}

// pair is the chapter's example: two nodes at 0 ft, 10 miles apart.
func pair() api.Setup {
	grid, _ := windgrid.Calm(0)
	node := func(y int64) api.Node {
		return api.Node{At: api.Point{Y: y}, Dist: y, Alt: w(0, 0), Speed: w(200, 300)}
	}
	return api.Setup{Nodes: []api.Node{node(0), node(60_000)}, Perf: tables(), Grid: grid, Fuel: api.Account{Empty: 60_000_000, Loaded: 10_000_000}, CAS: 300, Mach: 900, Accel: 10, Decel: 10, LimitAlt: api.MinAlt, LimitSpeed: 250}
}

// chain has five nodes with different windows of speeds.
func chain() api.Setup {
	s := pair()
	s.Nodes = nil
	s.Accel, s.Decel = 5, 4
	s.Grid.Winds[0], s.Grid.Err = api.Wind{North: -20}, 7
	for i, speed := range []api.Window{w(200, 220), w(150, 300), w(180, 290), w(100, 300), w(140, 170)} {
		s.Nodes = append(s.Nodes, api.Node{At: api.Point{Y: int64(i) * 60_000}, Dist: 60_000 * int64(min(i, 1)), Alt: w(0, 0), Speed: speed})
	}
	return s
}

// flights returns the flights of all schedules, nil where one has an error.
func flights(t *testing.T, s api.Setup) [][]api.Passage {
	t.Helper()
	alts, _, e := predict.Altitudes(s)
	if e != api.OK {
		t.Fatal(e)
	}
	ws, _ := predict.Speeds(s, alts)
	var dists []int64
	for _, n := range s.Nodes[1:] {
		dists = append(dists, n.Dist)
	}
	steps, _ := speedplan.Steps(dists, s.Accel, s.Decel)
	span, e := speedplan.Span(ws, steps)
	if e != api.OK {
		t.Fatal(e)
	}
	var all [][]api.Passage
	for k := int64(0); k <= span; k++ {
		speeds, _ := speedplan.Family(ws, steps, k)
		p, e := predict.With(s, alts, speeds)
		if e != api.OK {
			p = nil
		}
		all = append(all, p)
	}
	return all
}

// P38.1
func TestWindow(t *testing.T) {
	if got, e := Window(pair(), 1); got != w(200, 300) || e != api.OK {
		t.Errorf("the chapter's example: %v, %v", got, e)
	}
	s := chain()
	all := flights(t, s)
	for node := 1; node < 5; node++ {
		got, e := Window(s, node)
		if got != w(all[len(all)-1][node].Tick, all[0][node].Tick) || e != api.OK || got.Lo >= got.Hi {
			t.Errorf("node %d: %v, %v", node, got, e)
		}
	}
	// The fastest schedule needs less fuel than the slowest one here.
	for loaded, want := range map[int64]api.Errno{600_000: api.ErrFuel, 700_000: api.ErrFuel, 1_000_000: api.OK} {
		s := pair()
		s.Fuel.Loaded = loaded
		if got, e := Window(s, 1); e != want || e != api.OK && got != (api.Window{}) {
			t.Errorf("with fuel %d: %v, %v", loaded, got, e)
		}
	}
}

// P38.2
func TestSolve(t *testing.T) {
	for i, c := range []struct {
		want               api.Window
		speed, tick, early int64
		e                  api.Errno
	}{
		{w(210, 240), 250, 240, 0, api.OK}, {w(0, 199), 0, 0, 0, api.ErrTime}, {w(0, 200), 300, 200, 0, api.OK}, {w(400, 500), 200, 300, 100, api.OK}, {w(math.MinInt64, math.MaxInt64), 200, 300, 0, api.OK}, {w(math.MaxInt64, math.MaxInt64), 200, 300, math.MaxInt64 - 300, api.OK},
	} {
		p, early, e := Solve(pair(), 1, c.want)
		if e != c.e || early != c.early || e != api.OK && !reflect.DeepEqual(p, api.Prediction{}) {
			t.Errorf("case %d: %v, %d, %v", i, p, early, e)
		}
		if e == api.OK && (len(p.Passages) != 2 || p.Passages[1].Tick != c.tick || p.Passages[1].CAS != c.speed || p.Speeds || p.Trouble != (api.Conflict{})) {
			t.Errorf("case %d: %v", i, p)
		}
	}
	s := chain()
	all := flights(t, s)
	for node := 1; node < 5; node++ {
		for hi := int64(100); hi < 3000; hi += 37 {
			p, early, e := Solve(s, node, w(hi-50, hi))
			i := slices.IndexFunc(all, func(l []api.Passage) bool { return l != nil && l[node].Tick <= hi })
			if i < 0 {
				if e != api.ErrTime || early != 0 || !reflect.DeepEqual(p, api.Prediction{}) {
					t.Fatalf("node %d by %d: %v, %d, %v", node, hi, p, early, e)
				}
				continue
			}
			if e != api.OK || !slices.Equal(p.Passages, all[i]) || early != max(0, hi-50-all[i][node].Tick) {
				t.Fatalf("node %d by %d: %v, %d, %v", node, hi, p, early, e)
			}
		}
	}
	// Slower schedules for which there is not enough fuel are left out.
	poor := pair()
	poor.Fuel.Loaded = 720_000
	p, early, e := Solve(poor, 1, w(0, 1000))
	faster := flights(t, poor)
	i := slices.IndexFunc(faster, func(l []api.Passage) bool { return l != nil })
	if i < 1 || e != api.OK || early != 0 || !slices.Equal(p.Passages, faster[i]) {
		t.Errorf("without fuel for the slowest: %d, %v, %d, %v", i, p, early, e)
	}
}

// P38.3
func TestBinding(t *testing.T) {
	if n, e := Binding(pair(), 1); n != 1 || e != api.OK {
		t.Errorf("the chapter's example: %d, %v", n, e)
	}
	s := chain()
	alts, _, _ := predict.Altitudes(s)
	ws, _ := predict.Speeds(s, alts)
	steps, _ := speedplan.Steps([]int64{60_000, 60_000, 60_000, 60_000}, 5, 4)
	greatest, _ := profile.Greatest(ws, steps)
	var binding []int
	for i, v := range greatest {
		if v == ws[i].Hi {
			binding = append(binding, i)
		}
	}
	if !slices.Equal(binding, []int{0, 4}) {
		t.Fatalf("%v, %v", greatest, ws)
	}
	for node, want := range map[int]int{1: 0, 2: 0, 3: 4, 4: 4} { // node 2 is as near to both
		if n, e := Binding(s, node); n != want || e != api.OK {
			t.Errorf("node %d: %d, %v", node, n, e)
		}
	}
}

// P38.1, P38.2, P38.3: the errors in their order.
func TestErrors(t *testing.T) {
	for i, c := range []struct {
		change                 func(s *api.Setup)
		node                   int
		want                   api.Window
		window, solve, binding api.Errno
	}{
		{func(s *api.Setup) { s.CAS = 0 }, 9, w(1, 0), api.ErrRange, api.ErrRange, api.ErrRange},
		{func(s *api.Setup) { s.Nodes[1].Speed = w(301, 302) }, 0, w(0, 9), api.ErrArg, api.ErrArg, api.ErrArg},
		{func(s *api.Setup) {}, 2, w(0, 999), api.ErrArg, api.ErrArg, api.ErrArg},
		{func(s *api.Setup) {}, -1, w(0, 999), api.ErrArg, api.ErrArg, api.ErrArg},
		{func(s *api.Setup) {}, math.MaxInt, w(0, 999), api.ErrArg, api.ErrArg, api.ErrArg},
		{func(s *api.Setup) { s.Nodes[1].Speed = w(301, 302) }, 1, w(1, 0), api.ErrConflict, api.ErrArg, api.ErrConflict},
		{func(s *api.Setup) { s.Nodes[1].Speed = w(301, 302) }, 1, w(0, 999), api.ErrConflict, api.ErrConflict, api.ErrConflict},
		{func(s *api.Setup) { s.Nodes[1].Alt = w(5, 6) }, 1, w(0, 999), api.ErrConflict, api.ErrConflict, api.ErrConflict},
		{func(s *api.Setup) { s.Grid.Winds[0] = api.Wind{North: -340} }, 1, w(0, 999), api.ErrGeom, api.ErrTime, api.OK},
	} {
		s := pair()
		c.change(&s)
		got, e := Window(s, c.node)
		if e != c.window || e != api.OK && got != (api.Window{}) {
			t.Errorf("case %d: Window %v, %v", i, got, e)
		}
		if p, early, e := Solve(s, c.node, c.want); e != c.solve || !reflect.DeepEqual(p, api.Prediction{}) || early != 0 {
			t.Errorf("case %d: Solve %v, %d, %v", i, p, early, e)
		}
		if n, e := Binding(s, c.node); e != c.binding || e != api.OK && n != 0 {
			t.Errorf("case %d: Binding %d, %v", i, n, e)
		}
	}
}
