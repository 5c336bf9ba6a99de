package simulator

import (
	"math"
	"math/rand"
	"slices"
	"strings"
	"testing"

	"flightdeck/airspeed"
	"flightdeck/angle"
	"flightdeck/api"
	"flightdeck/fuel"
	"flightdeck/line"
	"flightdeck/performance"
	"flightdeck/predict"
	"flightdeck/sensor"
	"flightdeck/turn"
	"flightdeck/unit"
	"flightdeck/windgrid"
)

func pt(x, y int64) api.Point { return api.Point{X: x, Y: y} }

func tables() api.Perf {
	return api.Perf{Name: "TEST", Empty: 60_000_000, MaxFuel: 40_000_000, Alts: []int64{0, 4_000_000}, Masses: []int64{60_000_000, 100_000_000},
		Climb: [][]int64{{4000, 3000}, {1000, 500}}, ClimbFlow: [][]int64{{6000, 7000}, {4000, 4500}}, Cruise: [][]int64{{3000, 3600}, {2000, 2500}},
		Descent: []int64{1500, 2500}, Idle: []int64{900, 600}, MaxSpeed: []int64{340, 300}, MinSpeed: []int64{120, 150}, Ref: 300, Extra: 3, Ceiling: 4_100_000}
}

const empty = 60_000_000

// flying is an aircraft at the origin on course 0 with 250 knots.
func flying() api.Craft { return api.Craft{CAS: 250, Fuel: 20_000_000} }

func fly(t *testing.T, c api.Craft, x api.Targets, m api.Moment) api.Craft {
	t.Helper()
	after, e := Fly(c, tables(), empty, x, m)
	if e != api.OK {
		t.Fatal(e)
	}
	return after
}

// P59.1
func TestCheckCraft(t *testing.T) {
	extremes := func(sign int64) api.Craft {
		return api.Craft{Tick: api.MaxTick, Point: pt(sign*api.MaxXY, -sign*api.MaxXY), Velocity: api.Velocity{East: sign * 2000, North: -sign * 2000}, Alt: api.MaxAlt, VS: sign * api.MaxRate, Heading: api.Circle - 1, CAS: api.MaxSpeed, Fuel: api.MaxMass, Bank: sign * api.MaxBank, Ground: sign > 0}
	}
	for _, c := range []api.Craft{{}, flying(), extremes(1), extremes(-1), {Alt: api.MinAlt}} {
		if e := CheckCraft(c); e != api.OK {
			t.Errorf("%v: %v", c, e)
		}
	}
	for i, c := range []api.Craft{
		{Tick: -1}, {Tick: api.MaxTick + 1}, {Alt: api.MinAlt - 1}, {Alt: api.MaxAlt + 1}, {VS: api.MaxRate + 1}, {VS: -api.MaxRate - 1}, {Heading: -1}, {Heading: api.Circle}, {CAS: -1}, {CAS: api.MaxSpeed + 1},
		{Fuel: -1}, {Fuel: api.MaxMass + 1}, {Bank: api.MaxBank + 1}, {Bank: -api.MaxBank - 1}, {Velocity: api.Velocity{East: 2001}}, {Velocity: api.Velocity{East: -2001}}, {Velocity: api.Velocity{North: 2001}}, {Velocity: api.Velocity{North: math.MinInt64}},
		{Bank: 3001, Point: pt(api.MaxXY+1, 0)},
	} {
		if e := CheckCraft(c); e != api.ErrRange {
			t.Errorf("%d: %v", i, e)
		}
	}
	for _, p := range []api.Point{pt(api.MaxXY+1, 0), pt(0, -api.MaxXY-1)} {
		if e := CheckCraft(api.Craft{Point: p}); e != api.ErrArg {
			t.Errorf("%v: %v", p, e)
		}
	}
}

// place is a sensor that measures positions.
func place(computer, source int) api.Sensor {
	return api.Sensor{Computer: computer, Source: source, Kind: api.PositionReport, Bound: 30, Weight: 1}
}

// P59.1
func TestCheckSensors(t *testing.T) {
	var full []api.Sensor
	for i := range 8 {
		full = append(full, place(i%2+1, i+1))
	}
	wide := []api.Sensor{{Computer: 1, Source: 8, Kind: api.RangeReport, Point: pt(api.MaxXY, -api.MaxXY), Bound: 600_000, Weight: 16}, {Computer: 2, Source: 1, Kind: api.BearingReport, Bound: 10 * api.Degree, Weight: 1}, {Computer: 2, Source: 1, Kind: api.PositionReport, Weight: 1}}
	for i, l := range [][]api.Sensor{nil, {}, full, wide} {
		if e := CheckSensors(l); e != api.OK {
			t.Errorf("%d: %v", i, e)
		}
	}
	with := func(change func(s *api.Sensor)) []api.Sensor {
		s := place(1, 1)
		change(&s)
		return []api.Sensor{place(2, 2), s}
	}
	for i, x := range []struct {
		l    []api.Sensor
		want api.Errno
	}{
		{append(slices.Clone(full), api.Sensor{}), api.ErrLimit},
		{with(func(s *api.Sensor) { s.Computer = 0 }), api.ErrRange},
		{with(func(s *api.Sensor) { s.Computer, s.Kind = 3, 0 }), api.ErrRange},
		{with(func(s *api.Sensor) { s.Source = 0 }), api.ErrRange},
		{with(func(s *api.Sensor) { s.Source = 9 }), api.ErrRange},
		{with(func(s *api.Sensor) { s.Weight = 0 }), api.ErrRange},
		{with(func(s *api.Sensor) { s.Weight = 17 }), api.ErrRange},
		{with(func(s *api.Sensor) { s.Kind, s.Bound = 0, -1 }), api.ErrType},
		{with(func(s *api.Sensor) { s.Kind = api.BearingReport + 1 }), api.ErrType},
		{with(func(s *api.Sensor) { s.Bound, s.Point.X = -1, api.MaxXY+1 }), api.ErrRange},
		{with(func(s *api.Sensor) { s.Bound = 600_001 }), api.ErrRange},
		{with(func(s *api.Sensor) { s.Kind, s.Bound = api.RangeReport, 600_001 }), api.ErrRange},
		{with(func(s *api.Sensor) { s.Kind, s.Bound = api.BearingReport, sensor.MaxBearing+1 }), api.ErrRange},
		{with(func(s *api.Sensor) { s.Point.Y = api.MaxXY + 1 }), api.ErrArg},
		{[]api.Sensor{place(1, 1), place(1, 2), place(1, 3), place(1, 4), place(1, 5)}, api.ErrLimit},
		{[]api.Sensor{place(2, 1), place(2, 2), place(2, 3), place(2, 4), place(2, 5)}, api.ErrLimit},
		{[]api.Sensor{place(2, 1), place(2, 2), place(2, 3), place(2, 4), place(2, 5), place(3, 1)}, api.ErrRange},
	} {
		if e := CheckSensors(x.l); e != x.want {
			t.Errorf("%d: %v, not %v", i, e, x.want)
		}
	}
}

// P59.1
func TestCheckMoment(t *testing.T) {
	full := api.Moment{Wind: api.Wind{East: 200, North: -200}, Slip: api.Velocity{East: -20, North: 20}, Errors: make([][2]int64, 8), Silent: math.MaxUint16, Commands: [2]string{strings.Repeat(" ", 120), strings.Repeat("~", 120)}}
	full.Errors[7] = [2]int64{api.MaxXY, -api.MaxXY}
	for _, m := range []api.Moment{{}, full} {
		if e := CheckMoment(m); e != api.OK {
			t.Errorf("%v", e)
		}
	}
	nine := make([][2]int64, 9)
	for i, x := range []struct {
		m    api.Moment
		want api.Errno
	}{
		{api.Moment{Wind: api.Wind{East: 201}}, api.ErrRange},
		{api.Moment{Wind: api.Wind{East: -201}}, api.ErrRange},
		{api.Moment{Wind: api.Wind{North: 201}}, api.ErrRange},
		{api.Moment{Wind: api.Wind{North: math.MinInt64}, Errors: nine}, api.ErrRange},
		{api.Moment{Slip: api.Velocity{East: 21}}, api.ErrRange},
		{api.Moment{Slip: api.Velocity{East: -21}}, api.ErrRange},
		{api.Moment{Slip: api.Velocity{North: -21}, Errors: nine}, api.ErrRange},
		{api.Moment{Slip: api.Velocity{North: 21}}, api.ErrRange},
		{api.Moment{Errors: nine}, api.ErrLimit},
		{api.Moment{Commands: [2]string{strings.Repeat(" ", 121), ""}}, api.ErrLimit},
		{api.Moment{Commands: [2]string{"\n", strings.Repeat(" ", 121)}, Errors: [][2]int64{{api.MaxXY + 1, 0}}}, api.ErrLimit},
		{api.Moment{Errors: [][2]int64{{}, {api.MaxXY + 1, 0}}}, api.ErrRange},
		{api.Moment{Errors: [][2]int64{{0, -api.MaxXY - 1}}, Commands: [2]string{"\n", ""}}, api.ErrRange},
		{api.Moment{Commands: [2]string{"A\x1F", ""}}, api.ErrForm},
		{api.Moment{Commands: [2]string{"", "\x7F"}}, api.ErrForm},
		{api.Moment{Commands: [2]string{"", "\u00E4"}}, api.ErrForm},
	} {
		if e := CheckMoment(x.m); e != x.want {
			t.Errorf("%d: %v, not %v", i, e, x.want)
		}
	}
}

// P59.2: the examples
func TestFlyExamples(t *testing.T) {
	x := api.Targets{Speed: 250}
	if c := fly(t, flying(), x, api.Moment{}); c.Point != pt(0, 2500) || c.Tick != 10 || c.Velocity != (api.Velocity{North: 250}) || c.Heading != 0 || c.CAS != 250 || c.Alt != 0 {
		t.Errorf("%v", c)
	}
	if c := fly(t, flying(), x, api.Moment{Wind: api.Wind{North: -50}}); c.Point != pt(0, 2000) {
		t.Errorf("%v", c)
	}
	if c := fly(t, flying(), x, api.Moment{Wind: api.Wind{East: 30}}); c.Point != pt(300, 2500) {
		t.Errorf("%v", c)
	}
}

// P59.2: what is wrong
func TestFlyErrors(t *testing.T) {
	far := flying()
	far.Point = pt(0, api.MaxXY-2499)
	late := flying()
	late.Tick = api.MaxTick - 9
	for i, x := range []struct {
		c     api.Craft
		p     api.Perf
		empty int64
		m     api.Moment
		want  api.Errno
	}{
		{api.Craft{Point: pt(api.MaxXY+1, 0)}, api.Perf{}, -1, api.Moment{Wind: api.Wind{East: 201}}, api.ErrArg},
		{flying(), api.Perf{}, -1, api.Moment{Commands: [2]string{"\n", ""}}, api.ErrForm},
		{flying(), api.Perf{}, -1, api.Moment{}, performance.Check(api.Perf{})},
		{flying(), tables(), -1, api.Moment{}, api.ErrRange},
		{flying(), tables(), api.MaxMass + 1, api.Moment{}, api.ErrRange},
		{far, tables(), empty, api.Moment{}, api.ErrRange},
		{late, tables(), empty, api.Moment{}, api.ErrRange},
	} {
		if c, e := Fly(x.c, x.p, x.empty, api.Targets{Speed: 250}, x.m); e != x.want || c != (api.Craft{}) {
			t.Errorf("%d: %v %v", i, c, e)
		}
	}
	far.Point.Y--
	late.Tick--
	for _, c := range []api.Craft{far, late} {
		fly(t, c, api.Targets{Speed: 250}, api.Moment{})
	}
}

// P59.2: what the aircraft does of its targets
func TestFlyTargets(t *testing.T) {
	for i, x := range []struct {
		x                          api.Targets
		cas, alt, cas2, alt2, vs   int64
		bank                       int64
		ground, ground2, unmovable bool
	}{
		{x: api.Targets{Speed: 300, VS: 1200, Bank: 700}, cas: 250, cas2: 260, alt: 1000, alt2: 13000, vs: 1200, bank: 700},
		{x: api.Targets{Speed: 100, VS: -1200, Bank: -700}, cas: 250, cas2: 240, alt: 1000, alt2: -11000, vs: -1200, bank: -700},
		{x: api.Targets{Speed: 245}, cas: 250, cas2: 245},
		{x: api.Targets{Speed: -100}, cas: 5, cas2: 0},
		{x: api.Targets{Speed: math.MaxInt64, VS: math.MaxInt64, Bank: math.MaxInt64}, cas: 995, cas2: 1000, alt2: 100_000, vs: 10_000, bank: 3000},
		{x: api.Targets{Speed: math.MinInt64, VS: math.MinInt64, Bank: math.MinInt64}, cas: 20, cas2: 10, alt2: -100_000, vs: -10_000, bank: -3000},
		{x: api.Targets{VS: 10_000}, alt: 5_950_000, alt2: api.MaxAlt, vs: 10_000},
		{x: api.Targets{VS: -10_000}, alt: -150_000, alt2: api.MinAlt, vs: -10_000},
		{x: api.Targets{VS: -1000, Bank: 500, Speed: 150}, cas: 140, cas2: 150, alt: 300, alt2: 300, ground: true, ground2: true},
		{x: api.Targets{Bank: 500, Speed: 150}, cas: 100, cas2: 110, alt: 300, alt2: 300, ground: true, ground2: true},
		{x: api.Targets{VS: 1, Bank: 500, Speed: 150}, cas: 140, cas2: 150, alt: 300, alt2: 310, vs: 1, bank: 500, ground: true},
		{x: api.Targets{VS: 0, Speed: 150}, cas: 140, cas2: 150, alt: 0, alt2: 0},
	} {
		c := fly(t, api.Craft{CAS: x.cas, Alt: x.alt, Ground: x.ground, VS: 77, Bank: 77}, x.x, api.Moment{})
		if c.CAS != x.cas2 || c.Alt != x.alt2 || c.VS != x.vs || c.Bank != x.bank || c.Ground != x.ground2 {
			t.Errorf("%d: %v", i, c)
		}
	}
}

// P59.2: the turn, the velocity and the fuel, with the speed and the altitude of the new state
func TestFlyMotion(t *testing.T) {
	c := flying()
	c.Alt, c.Heading = 1_000_000, 10*api.Degree
	for _, bank := range []int64{2000, -2000} {
		after := fly(t, c, api.Targets{Speed: 300, VS: 2000, Bank: bank}, api.Moment{Wind: api.Wind{East: 50, North: -30}})
		tas, _ := airspeed.TAS(260, 1_020_000, 0)
		rate, _ := turn.Rate(tas, 2000)
		flow, _ := performance.CruiseFlow(tables(), 1_020_000, 80_000_000, tas)
		if want := angle.Norm(c.Heading + bank/2000*10*rate); after.Heading != want {
			t.Errorf("heading %d, not %d", after.Heading, want)
		}
		radians := float64(after.Heading) / api.Circle * 2 * math.Pi
		east, north := int64(math.Floor(float64(tas)*math.Sin(radians)+0.5))+50, int64(math.Floor(float64(tas)*math.Cos(radians)+0.5))-30
		if after.Velocity != (api.Velocity{East: east, North: north}) || after.Point != pt(10*east, 10*north) {
			t.Errorf("%v, not %d %d", after, east, north)
		}
		if after.Fuel != 20_000_000-10*flow || flow <= 0 {
			t.Errorf("fuel %d", after.Fuel)
		}
	}
}

// P59.2: without speed there is no turn; the speed is limited; fuel that is used up; masses without a flow
func TestFlyLimits(t *testing.T) {
	c := fly(t, api.Craft{Heading: 5, Fuel: 1}, api.Targets{Bank: 2500}, api.Moment{})
	if c.Heading != 5 || c.Fuel != 0 || c.Point != pt(0, 0) || c.Bank != 2500 {
		t.Errorf("%v", c)
	}
	c = fly(t, api.Craft{CAS: 900, Alt: 4_000_000}, api.Targets{Speed: 900}, api.Moment{})
	if c.Velocity.North != api.MaxSpeed {
		t.Errorf("%v", c)
	}
	heavy := api.Craft{CAS: 250, Fuel: api.MaxMass}
	if c := fly(t, heavy, api.Targets{Speed: 250}, api.Moment{}); c.Fuel != api.MaxMass {
		t.Errorf("fuel %d", c.Fuel)
	}
	if c, e := Fly(api.Craft{}, tables(), 0, api.Targets{}, api.Moment{}); e != api.OK || c != (api.Craft{Tick: 10}) {
		t.Errorf("%v %v", c, e)
	}
}

// P59.2: wind on the ground
func TestFlyGround(t *testing.T) {
	c := api.Craft{CAS: 100, Ground: true, Heading: api.Quarter}
	wind := api.Moment{Wind: api.Wind{East: 50, North: 50}}
	if c := fly(t, c, api.Targets{Speed: 100}, wind); c.Velocity != (api.Velocity{East: 100}) || c.Point != pt(1000, 0) {
		t.Errorf("%v", c)
	}
	if c := fly(t, c, api.Targets{Speed: 100, VS: 1}, wind); c.Velocity != (api.Velocity{East: 150, North: 50}) {
		t.Errorf("%v", c)
	}
}

// P59.3
func TestMeasure(t *testing.T) {
	c := api.Craft{Tick: 70, Point: pt(3000, 4000)}
	base := api.Sensor{Computer: 2, Source: 5, Bound: 30, Weight: 3}
	as := func(kind api.ReportKind, p api.Point) api.Sensor {
		base.Kind, base.Point = kind, p
		return base
	}
	north, _ := line.Course(pt(3000, 0), c.Point)
	for i, x := range []struct {
		s    api.Sensor
		x    [2]int64
		want api.Report
	}{
		{as(api.PositionReport, pt(9, 9)), [2]int64{10, -20}, api.Report{Point: pt(3010, 3980)}},
		{as(api.RangeReport, pt(0, 0)), [2]int64{-7, 100}, api.Report{Value: 4993}},
		{as(api.RangeReport, pt(0, 0)), [2]int64{-5001, 0}, api.Report{}},
		{as(api.BearingReport, pt(3000, 0)), [2]int64{25, 100}, api.Report{Point: pt(3000, 0), Value: north + 25}},
		{as(api.BearingReport, pt(3000, 0)), [2]int64{-25, 100}, api.Report{Point: pt(3000, 0), Value: north - 25 + api.Circle}},
	} {
		x.want.Source, x.want.Kind, x.want.Bound, x.want.Weight, x.want.Tick = 5, x.s.Kind, 30, 3, 70
		if r, e := Measure(c, x.s, x.x); e != api.OK || r != x.want {
			t.Errorf("%d: %v %v", i, r, e)
		}
	}
}

// P59.3: what is wrong
func TestMeasureErrors(t *testing.T) {
	edge := api.Craft{Point: pt(api.MaxXY, 0)}
	at := func(kind api.ReportKind, p api.Point) api.Sensor {
		return api.Sensor{Computer: 1, Source: 1, Kind: kind, Point: p, Bound: 30, Weight: 1}
	}
	for i, x := range []struct {
		c    api.Craft
		s    api.Sensor
		x    [2]int64
		want api.Errno
	}{
		{api.Craft{Point: pt(api.MaxXY+1, 0)}, api.Sensor{}, [2]int64{}, api.ErrArg},
		{flying(), api.Sensor{}, [2]int64{api.MaxXY + 1, 0}, api.ErrRange},
		{flying(), at(9, pt(0, 0)), [2]int64{api.MaxXY + 1, 0}, api.ErrType},
		{flying(), place(1, 1), [2]int64{api.MaxXY + 1, 0}, api.ErrRange},
		{flying(), place(1, 1), [2]int64{0, -api.MaxXY - 1}, api.ErrRange},
		{edge, place(1, 1), [2]int64{1, 0}, api.ErrArg},
		{api.Craft{}, at(api.BearingReport, pt(0, 0)), [2]int64{}, second(line.Course(pt(0, 0), pt(0, 0)))},
	} {
		if r, e := Measure(x.c, x.s, x.x); e != x.want || e == api.OK || r != (api.Report{}) {
			t.Errorf("%d: %v %v", i, r, e)
		}
	}
	if _, e := Measure(edge, place(1, 1), [2]int64{-2 * api.MaxXY / 2, api.MaxXY}); e != api.OK {
		t.Errorf("%v", e)
	}
}

func second(_ int64, e api.Errno) api.Errno { return e }

// P59.4
func TestSense(t *testing.T) {
	c := api.Craft{Tick: 30, Point: pt(100, 200), Velocity: api.Velocity{East: 2000, North: -1990}, Alt: 700, VS: -50, CAS: 210, Fuel: 999, Ground: true, Bank: 3, Heading: 4}
	l := []api.Sensor{place(1, 1), place(2, 2), place(1, 3), {Computer: 1, Source: 4, Kind: api.BearingReport, Point: c.Point, Weight: 1}, place(1, 5), place(2, 6)}
	m := api.Moment{Slip: api.Velocity{East: 20, North: -20}, Silent: 1 << 4, Thrust: true, Stopped: true, Errors: [][2]int64{{31, 0}, {5, -5}, {30, -30}}, Commands: [2]string{"ACK", "NAV"}}
	report := func(source int, p api.Point) api.Report {
		return api.Report{Source: source, Kind: api.PositionReport, Point: p, Bound: 30, Weight: 1, Tick: 30}
	}
	for i, want := range [2][]api.Report{{report(1, pt(131, 200)), report(3, pt(130, 170))}, {report(2, pt(105, 195)), report(6, pt(100, 200))}} {
		s, agree, e := Sense(c, l, i+1, m)
		if e != api.OK || !slices.Equal(s.Reports, want) || !slices.Equal(agree, []bool{i == 1, true}) {
			t.Errorf("%d: %v %v %v", i, s.Reports, agree, e)
		}
		if s.Tick != 30 || s.Velocity != (api.Velocity{East: 2000, North: -2000}) || s.Drift != 20 || s.Alt != 700 || s.VS != -50 || s.CAS != 210 || s.Fuel != 999 || !s.Ground || !s.Thrust || !s.Stopped || s.Command != m.Commands[i] {
			t.Errorf("%d: %v", i, s)
		}
	}
	c.Velocity, c.Ground, m.Thrust = api.Velocity{East: 5, North: 7}, false, false
	if s, _, _ := Sense(c, l, 1, m); s.Velocity != (api.Velocity{East: 25, North: -13}) || s.Ground || s.Thrust || !s.Stopped {
		t.Errorf("%v", s)
	}
	if got := Faulty(c, l, m); !slices.Equal(got, []int{1}) {
		t.Errorf("faulty %v", got)
	}
}

// P59.4: what is wrong
func TestSenseErrors(t *testing.T) {
	bad := api.Moment{Wind: api.Wind{East: 201}}
	for i, x := range []struct {
		c        api.Craft
		l        []api.Sensor
		computer int
		m        api.Moment
		want     api.Errno
	}{
		{api.Craft{Point: pt(api.MaxXY+1, 0)}, make([]api.Sensor, 1), 0, bad, api.ErrArg},
		{flying(), make([]api.Sensor, 9), 0, bad, api.ErrLimit},
		{flying(), nil, 0, bad, api.ErrRange},
		{flying(), nil, 0, api.Moment{}, api.ErrArg},
		{flying(), nil, 3, api.Moment{}, api.ErrArg},
	} {
		s, agree, e := Sense(x.c, x.l, x.computer, x.m)
		if e != x.want || s.Drift != 0 || s.Reports != nil || len(agree) > 0 {
			t.Errorf("%d: %v %v %v", i, s, agree, e)
		}
	}
	if got := Faulty(flying(), []api.Sensor{place(1, 1)}, api.Moment{Wind: bad.Wind, Errors: [][2]int64{{500, 500}}}); len(got) > 0 {
		t.Errorf("faulty %v", got)
	}
}

// P59.4: each source once, ascending, whoever measures
func TestFaulty(t *testing.T) {
	l := []api.Sensor{place(2, 7), place(1, 7), place(1, 3), place(2, 5), place(1, 1), place(2, 2)}
	m := api.Moment{Errors: [][2]int64{{31, 0}, {0, 31}, {-31, 0}, {0, -500}, {30, 30}, {99, 99}}, Silent: 1 << 5}
	if got := Faulty(flying(), l, m); !slices.Equal(got, []int{3, 5, 7}) {
		t.Errorf("%v", got)
	}
	if got := Faulty(flying(), l, api.Moment{}); len(got) > 0 {
		t.Errorf("%v", got)
	}
}

// P59.5
func TestRails(t *testing.T) {
	p := api.Prediction{Passages: []api.Passage{{Tick: 0}, {Tick: 10, Ground: 100}, {Tick: 10, Ground: 7}, {Tick: 25, Ground: 200}}}
	dists := []int64{950, 3, 3000}
	for tick, want := range map[int64]int64{0: 0, 1: 100, 9: 900, 10: 950, 11: 1153, 20: 2953, 24: 3753, 25: 3953} {
		if d, e := Rails(p, dists, tick); e != api.OK || d != want {
			t.Errorf("%d: %d %v", tick, d, e)
		}
	}
	for i, x := range []struct {
		p     api.Prediction
		dists []int64
		tick  int64
		want  api.Errno
	}{
		{api.Prediction{}, nil, 0, api.ErrArg}, {p, dists[:2], 0, api.ErrArg}, {p, append(slices.Clone(dists), 1), -1, api.ErrArg},
		{p, dists, -1, api.ErrRange}, {p, dists, 26, api.ErrRange}, {p, dists, math.MinInt64, api.ErrRange},
	} {
		if d, e := Rails(x.p, x.dists, x.tick); e != x.want || d != 0 {
			t.Errorf("%d: %d %v", i, d, e)
		}
	}
	alone := api.Prediction{Passages: []api.Passage{{Tick: 5}}}
	if d, e := Rails(alone, nil, 3); d != 0 || e != api.OK {
		t.Errorf("%d %v", d, e)
	}
}

// P59.5: at the tick 0 the flight is at its beginning, whatever the first passage says
func TestRailsBeginning(t *testing.T) {
	p := api.Prediction{Passages: []api.Passage{{Tick: -5}, {Tick: 10, Ground: 100}}}
	for tick, want := range map[int64]int64{0: 0, 1: 600} {
		if d, e := Rails(p, []int64{9999}, tick); d != want || e != api.OK {
			t.Errorf("%d: %d %v", tick, d, e)
		}
	}
}

// P59.5: numbers of any size, with the arithmetic of layer 1
func TestRailsExtremes(t *testing.T) {
	p := api.Prediction{Passages: []api.Passage{{Tick: math.MinInt64}, {Tick: -5, Ground: 1}, {Tick: 10, Ground: math.MaxInt64}}}
	if d, e := Rails(p, []int64{math.MaxInt64, math.MaxInt64}, 10); d != math.MaxInt64 || e != api.OK {
		t.Errorf("%d %v", d, e)
	}
}

// P59.5: with a prediction, each node is reached at the tick of its passage
func TestRailsPrediction(t *testing.T) {
	random := rand.New(rand.NewSource(61))
	grid, _ := windgrid.Calm(10)
	account, _ := fuel.New(empty, 30_000_000, 1_000_000)
	free := api.Window{Hi: api.MaxSpeed}
	predicted := 0
	for range 100 {
		x := api.Setup{Perf: tables(), Grid: grid, Fuel: account, Level: 2_000_000, CAS: 280, Mach: 780, Accel: 10, Decel: 8, LimitAlt: 1_000_000, LimitSpeed: 250}
		x.Nodes = []api.Node{{Alt: api.Window{}, Speed: free}}
		var dists []int64
		for i := range int64(4) {
			dists = append(dists, 60_000+random.Int63n(60_000))
			x.Nodes = append(x.Nodes, api.Node{At: pt(random.Int63n(9000), 100_000*(i+1)), Dist: dists[i], Alt: api.Window{Lo: api.MinAlt, Hi: api.MaxAlt}, Speed: free})
		}
		p, e := predict.Run(x)
		if e != api.OK {
			continue
		}
		predicted++
		var sum int64
		for i, passage := range p.Passages {
			if i > 0 {
				sum += dists[i-1]
			}
			if d, e := Rails(p, dists, passage.Tick); d != sum || e != api.OK {
				t.Fatalf("%d: %d, not %d, %v", i, d, sum, e)
			}
		}
	}
	if predicted < 50 {
		t.Errorf("only %d predictions", predicted)
	}
}

// P59.6
func TestAgreement(t *testing.T) {
	random := rand.New(rand.NewSource(59))
	spread := func(n int64) int64 { return random.Int63n(2*n+1) - n }
	for range 20_000 {
		c := api.Craft{Tick: random.Int63n(api.MaxTick + 1), Point: pt(spread(api.MaxXY), spread(api.MaxXY))}
		s := api.Sensor{Computer: 1, Source: 1 + random.Intn(8), Kind: api.PositionReport + api.ReportKind(random.Intn(3)), Point: pt(spread(api.MaxXY), spread(api.MaxXY)), Bound: 2 + random.Int63n(5000), Weight: 1}
		if random.Intn(3) == 0 {
			s.Point = pt(c.Point.X+spread(20), c.Point.Y+spread(20))
		}
		bound := s.Bound
		switch s.Kind {
		case api.RangeReport:
			bound--
		case api.BearingReport:
			bound -= 2
		}
		x := [2]int64{spread(bound), spread(bound)}
		if random.Intn(2) == 0 {
			x[0] = bound * (1 - 2*random.Int63n(2))
		}
		r, e := Measure(c, s, x)
		short := s.Kind == api.RangeReport && line.Dist(s.Point, c.Point)+x[0] < 0
		if e == api.OK && !short && !sensor.Agrees(r, c.Point) {
			t.Fatalf("%v %v %v: %v", c, s, x, r)
		}
	}
}

// P59.6
func TestInputs(t *testing.T) {
	random := rand.New(rand.NewSource(60))
	spread := func(n int64) int64 { return random.Int63n(2*n+1) - n }
	for range 3000 {
		c := api.Craft{Point: pt(spread(api.MaxXY), spread(api.MaxXY)), Velocity: api.Velocity{East: spread(2000), North: spread(2000)}, Alt: random.Int63n(api.MaxAlt), VS: spread(api.MaxRate), CAS: random.Int63n(api.MaxSpeed + 1), Fuel: random.Int63n(api.MaxMass + 1)}
		var l []api.Sensor
		m := api.Moment{Wind: api.Wind{East: spread(200)}, Slip: api.Velocity{East: spread(20), North: spread(20)}, Silent: uint16(random.Intn(256) & random.Intn(256)), Commands: [2]string{"", "NO COMMAND"}}
		for i := range 8 {
			l = append(l, api.Sensor{Computer: i%2 + 1, Source: 1 + i, Kind: api.PositionReport + api.ReportKind(random.Intn(3)), Point: pt(spread(api.MaxXY), spread(api.MaxXY)), Bound: random.Int63n(9999), Weight: 1})
			m.Errors = append(m.Errors, [2]int64{spread(api.MaxXY), spread(api.MaxXY)})
		}
		for computer := 1; computer <= 2; computer++ {
			s, agree, e := Sense(c, l, computer, m)
			if e != api.OK || len(agree) != len(s.Reports) || unit.CheckSense(s) != api.OK {
				t.Fatalf("%v: %v %v", s, e, unit.CheckSense(s))
			}
		}
	}
}
