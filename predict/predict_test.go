package predict

import (
	"math"
	"reflect"
	"slices"
	"testing"

	"flightdeck/airspeed"
	"flightdeck/api"
	"flightdeck/constraint"
	"flightdeck/performance"
	"flightdeck/speedplan"
	"flightdeck/wind"
	"flightdeck/windgrid"
)

func pt(x, y int64) api.Point { return api.Point{X: x, Y: y} }

func w(lo, hi int64) api.Window { return api.Window{Lo: lo, Hi: hi} }

func free() api.Window { return w(api.MinAlt, api.MaxAlt) }

func in(lo, hi int64) api.Interval { return api.Interval{Lo: lo, Hi: hi} }

func tables() api.Perf {
	return api.Perf{Name: "TEST", Empty: 60_000_000, MaxFuel: 40_000_000, Alts: []int64{0, 4_000_000}, Masses: []int64{60_000_000, 100_000_000},
		Climb: [][]int64{{4000, 3000}, {1000, 500}}, ClimbFlow: [][]int64{{6000, 7000}, {4000, 4500}}, Cruise: [][]int64{{3000, 3600}, {2000, 2500}},
		Descent: []int64{1500, 2500}, Idle: []int64{900, 600}, MaxSpeed: []int64{340, 300}, MinSpeed: []int64{120, 150}, Ref: 300, Extra: 3, Ceiling: 4_100_000}
}

func calm(err int64) api.Grid {
	g, _ := windgrid.Calm(err)
	return g
}

// level is the chapter's example: two nodes at 0 ft, 10 miles apart.
func levelSetup(err int64) api.Setup {
	p := tables()
	p.MinSpeed = []int64{1, 1}
	node := func(y, dist int64) api.Node {
		return api.Node{At: pt(0, y), Dist: dist, Alt: w(0, 0), Speed: w(0, 300)}
	}
	return api.Setup{Nodes: []api.Node{node(0, 0), node(60_000, 60_000)}, Perf: p, Grid: calm(err), Fuel: api.Account{Empty: 60_000_000, Loaded: 10_000_000}, Level: 0, CAS: 300, Mach: 900, Accel: 10, Decel: 10, LimitAlt: api.MinAlt, LimitSpeed: 250}
}

// trip climbs, cruises and descends in winds.
func trip() api.Setup {
	s := api.Setup{Perf: tables(), Fuel: api.Account{Empty: 60_000_000, Loaded: 20_000_000, Burnt: 1_000_000}, Level: 3_000_000, CAS: 290, Mach: 780, Accel: 8, Decel: 6, LimitAlt: 1_000_000, LimitSpeed: 250}
	node := func(x, y, dist int64, alt, speed api.Window) {
		s.Nodes = append(s.Nodes, api.Node{At: pt(x, y), Dist: dist, Alt: alt, Speed: speed})
	}
	speed := w(0, 1000)
	node(0, 0, 0, w(43_200, 43_200), speed)
	node(30_000, 40_000, 50_000, w(300_000, api.MaxAlt), speed)
	node(150_000, 200_000, 201_000, free(), speed)
	node(150_000, 600_000, 400_000, free(), speed)
	node(100_000, 1_000_000, 404_000, w(api.MinAlt, 1_200_000), w(0, 240))
	node(100_000, 1_050_000, 50_000, w(100_000, 200_000), w(160, 180))
	s.Grid = api.Grid{Corner: pt(-100_000, -100_000), Cell: 400_000, NX: 3, NY: 4, Alts: []int64{0, 1_500_000, 3_500_000}, Err: 12}
	for i := range int64(36) {
		s.Grid.Winds = append(s.Grid.Winds, api.Wind{East: i*i*7%60 - 20, North: i * i * i * 11 % 50})
		s.Grid.Devs = append(s.Grid.Devs, i*i*31%1500-500)
	}
	return s
}

// P37.1
func TestCheck(t *testing.T) {
	for i, c := range []struct {
		change func(s *api.Setup)
		want   api.Errno
	}{
		{func(s *api.Setup) {}, api.OK},
		{func(s *api.Setup) { s.Nodes = s.Nodes[:1]; s.Nodes[0].Dist = 1 }, api.ErrLimit},
		{func(s *api.Setup) { s.Nodes = make([]api.Node, 65) }, api.ErrLimit},
		{func(s *api.Setup) { s.Nodes[0].At.X = 2_000_001; s.Nodes[0].Dist = 5 }, api.ErrRange},
		{func(s *api.Setup) { s.Nodes[0].Dist = -1 }, api.ErrRange},
		{func(s *api.Setup) { s.Nodes[0].Dist = 1; s.Nodes[0].Alt = w(1, 0) }, api.ErrArg},
		{func(s *api.Setup) { s.Nodes[0].Dist = 1; s.Nodes[1].Dist = -1 }, api.ErrArg},
		{func(s *api.Setup) { s.Nodes[5].Dist = api.MaxDist + 1 }, api.ErrRange},
		{func(s *api.Setup) { s.Nodes[1].Alt = w(1, 0) }, api.ErrRange}, {func(s *api.Setup) { s.Nodes[1].Alt.Lo = api.MinAlt - 1 }, api.ErrRange}, {func(s *api.Setup) { s.Nodes[1].Alt.Hi = api.MaxAlt + 1 }, api.ErrRange},
		{func(s *api.Setup) { s.Nodes[1].Speed = w(1, 0) }, api.ErrRange}, {func(s *api.Setup) { s.Nodes[1].Speed.Lo = -1 }, api.ErrRange}, {func(s *api.Setup) { s.Nodes[1].Speed.Hi = 1001; s.Perf.Name = "" }, api.ErrRange},
		{func(s *api.Setup) { s.Perf.Name = ""; s.Grid.NX = 0 }, api.ErrName},
		{func(s *api.Setup) { s.Grid.NX = 0; s.Fuel.Empty = 0 }, api.ErrLimit},
		{func(s *api.Setup) { s.Grid.Devs = nil }, api.ErrArg},
		{func(s *api.Setup) { s.Fuel.Empty = 0 }, api.ErrRange},
		{func(s *api.Setup) { s.Level = api.MinAlt - 1 }, api.ErrRange}, {func(s *api.Setup) { s.Level = api.MaxAlt + 1 }, api.ErrRange},
		{func(s *api.Setup) { s.CAS = 0 }, api.ErrRange}, {func(s *api.Setup) { s.CAS = 1001 }, api.ErrRange}, {func(s *api.Setup) { s.Mach = 0 }, api.ErrRange}, {func(s *api.Setup) { s.Mach = 2001 }, api.ErrRange},
		{func(s *api.Setup) { s.Accel = -1 }, api.ErrRange}, {func(s *api.Setup) { s.Accel = 1001 }, api.ErrRange}, {func(s *api.Setup) { s.Decel = -1 }, api.ErrRange}, {func(s *api.Setup) { s.Decel = 1001 }, api.ErrRange},
		{func(s *api.Setup) { s.LimitAlt = api.MinAlt - 1 }, api.ErrRange}, {func(s *api.Setup) { s.LimitAlt = api.MaxAlt + 1 }, api.ErrRange}, {func(s *api.Setup) { s.LimitSpeed = 0 }, api.ErrRange}, {func(s *api.Setup) { s.LimitSpeed = 1001 }, api.ErrRange},
	} {
		s := trip()
		c.change(&s)
		if e := Check(s); e != c.want {
			t.Errorf("case %d: %v, want %v", i, e, c.want)
		}
		if c.want == api.OK {
			continue
		}
		b, e1 := Boxes(s)
		st, e2 := Steps(s)
		a, x, e3 := Altitudes(s)
		sp, e4 := Speeds(s, nil)
		p, e5 := With(s, nil, nil)
		r, e6 := Run(s)
		ticks, left, e7 := Fly(s, api.Prediction{}, nil)
		if len(b)+len(st)+len(a)+len(sp)+len(p)+len(ticks)+len(left) > 0 || x != (api.Conflict{}) || !reflect.DeepEqual(r, api.Prediction{}) {
			t.Errorf("case %d: results beside an error", i)
		}
		for k, e := range []api.Errno{e1, e2, e3, e4, e5, e6, e7} {
			if e != c.want {
				t.Errorf("case %d, function %d: %v", i, k, e)
			}
		}
	}
}

// P37.2
func TestBoxes(t *testing.T) {
	s := trip()
	boxes, e := Boxes(s)
	if len(boxes) != 5 || e != api.OK {
		t.Fatalf("%v, %v", boxes, e)
	}
	for i, b := range boxes {
		want, _, _ := windgrid.Hull(s.Grid, s.Nodes[i].At, s.Nodes[i+1].At, w(api.MinAlt, s.Level))
		if b != want {
			t.Errorf("leg %d: %v, want %v", i+1, b, want)
		}
	}
}

// P37.3: the steps of the trip, by the chapter's words.
func TestSteps(t *testing.T) {
	for _, change := range []func(s *api.Setup){func(s *api.Setup) {}, func(s *api.Setup) { s.CAS = 230 }, func(s *api.Setup) { s.Nodes[1].Alt = w(0, 700_000) }, func(s *api.Setup) { s.Level = 1_000_000 }, func(s *api.Setup) { s.Nodes[2].Dist = api.MaxDist; s.Perf.Climb[0][0] = 4001 }} {
		s := trip()
		change(&s)
		got, e := Steps(s)
		if e != api.OK || len(got) != 5 {
			t.Fatalf("%v, %v", got, e)
		}
		h := min(s.Level, s.Nodes[0].Alt.Hi)
		for i := 1; i < len(s.Nodes); i++ {
			box, devs, _ := windgrid.Hull(s.Grid, s.Nodes[i-1].At, s.Nodes[i].At, w(api.MinAlt, s.Level))
			cas := (min(s.Nodes[i-1].Speed.Hi, s.CAS) + min(s.Nodes[i].Speed.Hi, s.CAS)) / 2
			v, _ := airspeed.TAS(cas, s.Level, devs.Hi)
			v += max(box.East.Lo, -box.East.Lo, box.East.Hi) + max(box.North.Lo, -box.North.Lo, box.North.Hi)
			ticks := min(s.Nodes[i].Dist/v, performance.MaxTicks)
			r, _ := performance.Rise(s.Perf, h, 79_000_000, ticks)
			if got[i-1] != (api.Step{Up: r - h, Down: 1500 * ticks}) {
				t.Errorf("leg %d: %v, want {%d %d}", i, got[i-1], r-h, 1500*ticks)
			}
			h = min(r, s.Level, s.Nodes[i].Alt.Hi)
		}
	}
	s := levelSetup(0)
	s.Nodes[0].Speed, s.Nodes[1].Speed = w(0, 0), w(0, 0)
	s.Level, s.Nodes[1].Alt = 100_000, free()
	if got, e := Steps(s); e != api.OK || got[0].Down != 1500*performance.MaxTicks {
		t.Errorf("without a speed: %v, %v", got, e)
	}
}

// P37.4, P37.7
func TestAltitudes(t *testing.T) {
	s := trip()
	alts, x, e := Altitudes(s)
	steps, _ := Steps(s)
	var ws []api.Window
	for _, n := range s.Nodes {
		ws = append(ws, n.Alt)
	}
	if e != api.OK || x != (api.Conflict{}) || !constraint.Meets(ws, steps, alts) || slices.Max(alts) > s.Level {
		t.Errorf("%v, %v, %v", alts, x, e)
	}
	if want := []int64{43_200, 43_200 + steps[0].Up, 43_200 + steps[0].Up + steps[1].Up, 200_000 + steps[4].Down + steps[3].Down, 200_000 + steps[4].Down, 200_000}; !slices.Equal(alts, want) {
		t.Errorf("%v, want %v, steps %v", alts, want, steps)
	}
	for i, c := range []struct {
		change func(s *api.Setup)
		want   api.Conflict
	}{
		{func(s *api.Setup) { s.Nodes[2].Alt.Lo = 3_000_001 }, api.Conflict{I: 2, J: 2}},
		{func(s *api.Setup) { s.Nodes[1].Alt.Lo = 3_000_000 }, api.Conflict{I: 0, J: 1}},
		{func(s *api.Setup) { s.Nodes[4].Alt = w(2_900_000, 2_950_000) }, api.Conflict{I: 4, J: 5}},
	} {
		s := trip()
		c.change(&s)
		alts, x, e := Altitudes(s)
		if len(alts) > 0 || x != c.want || e != api.ErrConflict {
			t.Errorf("case %d: %v, %v, %v", i, alts, x, e)
		}
		if p, e := Run(s); !reflect.DeepEqual(p, api.Prediction{Trouble: c.want}) || e != api.ErrConflict {
			t.Errorf("case %d: Run %v, %v", i, p, e)
		}
	}
}

// P37.5, P37.7
func TestSpeeds(t *testing.T) {
	s := trip()
	s.Nodes[2].Speed = w(200, 320)
	got, e := Speeds(s, []int64{0, 999_999, 1_000_000, 4_000_000, 2_000_000, 100_000})
	want := []api.Window{w(134, 250), w(134, 250), w(200, 290), w(134, 290), w(134, 240), w(160, 180)}
	if !slices.Equal(got, want) || e != api.OK {
		t.Errorf("%v, %v", got, e)
	}
	s.Perf.MaxSpeed = []int64{330, 200}
	s.Nodes[5].Speed.Lo = 180
	s.Perf.MinSpeed = []int64{200, 200}
	got, e = Speeds(s, []int64{0, 999_999, 1_000_000, 4_000_000, 2_000_000, 100_000})
	want = []api.Window{w(200, 250), w(200, 250), w(200, 290), w(200, 200), w(200, 240), w(200, 180)}
	if !slices.Equal(got, want) || e != api.OK {
		t.Errorf("%v, %v", got, e)
	}
	for i, c := range []struct {
		alts []int64
		want api.Errno
	}{{make([]int64, 5), api.ErrArg}, {make([]int64, 7), api.ErrArg}, {[]int64{0, 0, 0, 0, 0, api.MaxAlt + 1}, api.ErrRange}, {[]int64{api.MinAlt - 1, 0, 0, 0, 0, 0}, api.ErrRange}, {[]int64{0, 0, 0, 0, 0, api.MaxAlt}, api.OK}} {
		if got, e := Speeds(s, c.alts); e != c.want || e != api.OK && len(got) > 0 {
			t.Errorf("case %d: %v, %v", i, got, e)
		}
	}
	if p, e := Run(s); !reflect.DeepEqual(p, api.Prediction{Trouble: api.Conflict{I: 5, J: 5}, Speeds: true}) || e != api.ErrConflict {
		t.Errorf("Run: %v, %v", p, e)
	}
	s = trip()
	s.Nodes[5].Speed, s.Decel = w(140, 150), 0
	s.Nodes[4].Speed = w(200, 240)
	if p, e := Run(s); !reflect.DeepEqual(p, api.Prediction{Trouble: api.Conflict{I: 4, J: 5}, Speeds: true}) || e != api.ErrConflict {
		t.Errorf("Run: %v, %v", p, e)
	}
}

// P37.7: the chapter's examples.
func TestExamples(t *testing.T) {
	p, e := Run(levelSetup(0))
	if e != api.OK || len(p.Passages) != 2 || p.Speeds || p.Trouble != (api.Conflict{}) {
		t.Fatalf("%v, %v", p, e)
	}
	if p.Passages[0] != (api.Passage{CAS: 300, TAS: 300, Fuel: 10_000_000, FuelIn: in(10_000_000, 10_000_000)}) {
		t.Errorf("node 0: %+v", p.Passages[0])
	}
	flow, _ := performance.CruiseFlow(tables(), 0, 70_000_000, 300)
	left := 10_000_000 - 200*flow
	if p.Passages[1] != (api.Passage{CAS: 300, TAS: 300, Ground: 300, Tick: 200, Fuel: left, GroundIn: in(300, 300), TickIn: in(200, 200), FuelIn: in(left, left), Phase: 2}) {
		t.Errorf("node 1: %+v", p.Passages[1])
	}
	p, e = Run(levelSetup(30))
	if x := p.Passages[1]; e != api.OK || x.GroundIn != in(268, 330) || x.TickIn != in(182, 224) || x.FuelIn != in(10_000_000-224*flow, 10_000_000-182*flow) {
		t.Errorf("with winds: %+v, %v", x, e)
	}
}

// rational division, rounded up.
func up(a, b int64) int64 { return (a + b - 1) / b }

// P37.6: the passages of the trip, by the chapter's words.
func TestWith(t *testing.T) {
	s := trip()
	alts := []int64{43_200, 600_001, 3_000_000, 3_000_000, 1_100_000, 150_000}
	speeds := []int64{180, 250, 290, 285, 240, 171}
	got, e := With(s, alts, speeds)
	if e != api.OK || len(got) != 6 {
		t.Fatalf("%v, %v", got, e)
	}
	_, dev, _ := windgrid.At(s.Grid, s.Nodes[0].At, alts[0])
	tas, _ := airspeed.Schedule(180, 780, 43_200, dev)
	if got[0] != (api.Passage{Alt: 43_200, CAS: 180, TAS: tas, Fuel: 19_000_000, FuelIn: in(19_000_000, 19_000_000)}) {
		t.Errorf("node 0: %+v", got[0])
	}
	courses := []int64{13_273_163, 13_273_163, 0, 127_034_994, 0}
	for i := 1; i < 6; i++ {
		a, b, before := s.Nodes[i-1], s.Nodes[i], got[i-1]
		cas, alt := (speeds[i-1]+speeds[i])/2, (alts[i-1]+alts[i])/2
		wnd, dev, _ := windgrid.At(s.Grid, pt((a.At.X+b.At.X)/2, (a.At.Y+b.At.Y)/2), alt)
		box, devs, _ := windgrid.Hull(s.Grid, a.At, b.At, w(api.MinAlt, s.Level))
		x := api.Passage{Alt: alts[i], CAS: speeds[i], Phase: []byte{0, 1, 1, 2, 3, 3}[i]}
		x.TAS, _ = airspeed.Schedule(cas, 780, alt, dev)
		slow, _ := airspeed.Schedule(cas, 780, alt, devs.Lo)
		fast, _ := airspeed.Schedule(cas, 780, alt, devs.Hi)
		v, _, _ := wind.Ground(courses[i-1], x.TAS, wnd)
		x.Ground = v / 1024
		x.GroundIn, _ = wind.GroundIn(courses[i-1], in(slow, fast), box)
		ticks, lo, hi := up(b.Dist, x.Ground), up(b.Dist, x.GroundIn.Hi), up(b.Dist, x.GroundIn.Lo)
		x.Tick, x.TickIn = before.Tick+ticks, in(before.TickIn.Lo+lo, before.TickIn.Hi+hi)
		flow := func(left, tas int64) (f int64) {
			switch x.Phase {
			case 1:
				f, _ = performance.ClimbFlow(s.Perf, alt, 60_000_000+left)
			case 2:
				f, _ = performance.CruiseFlow(s.Perf, alt, 60_000_000+left, tas)
			case 3:
				f, _ = performance.IdleFlow(s.Perf, alt)
			}
			return f
		}
		x.Fuel = before.Fuel - ticks*flow(before.Fuel, x.TAS)
		x.FuelIn = in(before.FuelIn.Lo-hi*flow(before.FuelIn.Hi, fast), before.FuelIn.Hi-lo*flow(before.FuelIn.Lo, slow))
		if got[i] != x {
			t.Errorf("node %d: %+v\nwant %+v", i, got[i], x)
		}
	}
}

// P37.6: the errors in their order.
func TestWithErrors(t *testing.T) {
	alts, speeds := []int64{0, 0}, []int64{300, 300}
	for i, c := range []struct {
		change       func(s *api.Setup)
		alts, speeds []int64
		want         api.Errno
	}{
		{func(s *api.Setup) {}, alts, speeds, api.OK},
		{func(s *api.Setup) {}, alts[:1], []int64{-1, 5}, api.ErrArg}, {func(s *api.Setup) {}, []int64{1, 0}, speeds[:1], api.ErrArg}, {func(s *api.Setup) {}, make([]int64, 3), make([]int64, 3), api.ErrArg},
		{func(s *api.Setup) {}, []int64{0, 1}, []int64{0, 0}, api.ErrRange}, {func(s *api.Setup) {}, []int64{0, api.MinAlt - 1}, speeds, api.ErrRange}, {func(s *api.Setup) {}, alts, []int64{-1, 300}, api.ErrRange}, {func(s *api.Setup) {}, alts, []int64{300, 1001}, api.ErrRange},
		{func(s *api.Setup) {}, alts, []int64{0, 1}, api.ErrGeom}, {func(s *api.Setup) {}, alts, []int64{1, 1}, api.ErrFuel},
		{func(s *api.Setup) {
			s.Grid = api.Grid{Cell: 60_000, NX: 1, NY: 2, Alts: []int64{0}, Winds: make([]api.Wind, 2), Devs: []int64{-4000, 4000}}
		}, alts, []int64{1, 1}, api.ErrGeom},
		{func(s *api.Setup) { s.Grid.Winds[0] = api.Wind{North: -299} }, alts, speeds, api.ErrFuel},
		{func(s *api.Setup) { s.Grid.Winds[0] = api.Wind{North: -300} }, alts, speeds, api.ErrGeom},
		{func(s *api.Setup) { s.Grid.Winds[0] = api.Wind{East: 300} }, alts, speeds, api.ErrGeom},
		{func(s *api.Setup) { s.Grid.Winds[0] = api.Wind{North: -280}; s.Grid.Err = 20 }, alts, speeds, api.ErrGeom},
		{func(s *api.Setup) { s.Fuel.Loaded = 100_000 }, alts, speeds, api.ErrFuel},
		{func(s *api.Setup) { s.Grid.Err = 60; s.Fuel.Loaded = 640_000 }, alts, speeds, api.ErrFuel},
	} {
		s := levelSetup(0)
		c.change(&s)
		if got, e := With(s, c.alts, c.speeds); e != c.want || e != api.OK && len(got) > 0 {
			t.Errorf("case %d: %v, %v, want %v", i, got, e, c.want)
		}
	}
	s := levelSetup(0)
	s.Fuel.Loaded = 100_000
	if p, e := Run(s); !reflect.DeepEqual(p, api.Prediction{}) || e != api.ErrFuel {
		t.Errorf("Run without fuel: %v, %v", p, e)
	}
	same := levelSetup(0)
	same.Nodes[1].At = pt(0, 0)
	same.Grid.Winds[0] = api.Wind{North: 7}
	if p, e := With(same, alts, speeds); e != api.OK || p[1].Ground != 307 {
		t.Errorf("a leg without a course: %v, %v", p, e)
	}
}

// P37.7
func TestRun(t *testing.T) {
	s := trip()
	p, e := Run(s)
	if e != api.OK || len(p.Passages) != 6 || p.Speeds || p.Trouble != (api.Conflict{}) {
		t.Fatalf("%v, %v", p, e)
	}
	alts, _, _ := Altitudes(s)
	ws, _ := Speeds(s, alts)
	steps, _ := speedplan.Steps([]int64{50_000, 201_000, 400_000, 404_000, 50_000}, 8, 6)
	speeds, _ := speedplan.Plan(ws, steps, []int64{290, 290, 290, 290, 290, 290})
	want, _ := With(s, alts, speeds)
	if !slices.Equal(p.Passages, want) {
		t.Errorf("%v, want %v", p.Passages, want)
	}
	var speedsOf []int64
	for _, x := range p.Passages {
		speedsOf = append(speedsOf, x.CAS)
	}
	if !constraint.Meets(ws, steps, speedsOf) {
		t.Errorf("the speeds %v do not meet %v, %v", speedsOf, ws, steps)
	}
}

// P37.8
func TestFly(t *testing.T) {
	s := trip()
	p, e := Run(s)
	if e != api.OK {
		t.Fatal(e)
	}
	boxes, _ := Boxes(s)
	seed := uint64(8)
	next := func(x api.Interval) int64 {
		seed = seed*6364136223846793005 + 1442695040888963407
		return x.Lo + int64(seed>>33)%(x.Hi-x.Lo+1)
	}
	for k := range 500 {
		var winds []api.Wind
		for _, b := range boxes {
			switch k {
			case 0:
				winds = append(winds, api.Wind{East: b.East.Lo, North: b.North.Lo})
			case 1:
				winds = append(winds, api.Wind{East: b.East.Hi, North: b.North.Hi})
			default:
				winds = append(winds, api.Wind{East: next(b.East), North: next(b.North)})
			}
		}
		ticks, left, e := Fly(s, p, winds)
		if e != api.OK || len(ticks) != 6 || len(left) != 6 || ticks[0] != 0 || left[0] != 19_000_000 {
			t.Fatalf("%v, %v, %v", ticks, left, e)
		}
		for i, x := range p.Passages {
			if ticks[i] < x.TickIn.Lo || ticks[i] > x.TickIn.Hi || left[i] < x.FuelIn.Lo || left[i] > x.FuelIn.Hi {
				t.Fatalf("node %d: tick %d, %d left, not in %v, %v", i, ticks[i], left[i], x.TickIn, x.FuelIn)
			}
		}
	}
	// In the forecast's own winds it is the prediction itself.
	var winds []api.Wind
	for i := 1; i < len(s.Nodes); i++ {
		a, b := s.Nodes[i-1].At, s.Nodes[i].At
		wnd, _, _ := windgrid.At(s.Grid, pt((a.X+b.X)>>1, (a.Y+b.Y)>>1), (p.Passages[i-1].Alt+p.Passages[i].Alt)>>1)
		winds = append(winds, wnd)
	}
	ticks, left, e := Fly(s, p, winds)
	for i, x := range p.Passages {
		if e != api.OK || ticks[i] != x.Tick || left[i] != x.Fuel {
			t.Errorf("node %d: %v, %v, %v", i, ticks, left, e)
		}
	}
}

// P37.8: the errors in their order.
func TestFlyErrors(t *testing.T) {
	s := levelSetup(30)
	p, _ := Run(s)
	change := func(f func(p *api.Prediction)) api.Prediction {
		q := p
		q.Passages = slices.Clone(p.Passages)
		f(&q)
		return q
	}
	poor := levelSetup(30)
	poor.Fuel.Loaded = 100_000
	slow := levelSetup(30)
	for i, c := range []struct {
		s     api.Setup
		p     api.Prediction
		winds []api.Wind
		want  api.Errno
	}{
		{s, p, []api.Wind{{}}, api.OK},
		{s, api.Prediction{}, []api.Wind{{}}, api.ErrArg}, {s, p, nil, api.ErrArg}, {s, p, make([]api.Wind, 2), api.ErrArg},
		{s, change(func(p *api.Prediction) { p.Passages[1].Alt = 1 }), []api.Wind{{}}, api.ErrRange},
		{s, change(func(p *api.Prediction) { p.Passages[0].CAS = -1 }), []api.Wind{{}}, api.ErrRange},
		{s, change(func(p *api.Prediction) { p.Passages[0].CAS = math.MaxInt64 }), []api.Wind{{}}, api.ErrRange},
		{s, p, []api.Wind{{East: 31}}, api.ErrRange}, {s, p, []api.Wind{{North: -31}}, api.ErrRange},
		{s, change(func(p *api.Prediction) { p.Passages[0].CAS, p.Passages[1].CAS = 0, 1 }), []api.Wind{{}}, api.ErrGeom},
		{slow, change(func(p *api.Prediction) { p.Passages[0].CAS, p.Passages[1].CAS = 30, 30 }), []api.Wind{{North: -30}}, api.ErrGeom},
		{poor, p, []api.Wind{{}}, api.ErrFuel},
	} {
		ticks, left, e := Fly(c.s, c.p, c.winds)
		if e != c.want || e != api.OK && len(ticks)+len(left) > 0 {
			t.Errorf("case %d: %v, %v, %v, want %v", i, ticks, left, e, c.want)
		}
	}
}
