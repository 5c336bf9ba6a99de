package unit

import (
	"testing"

	"flightdeck/api"
	"flightdeck/navdb"
	"flightdeck/windgrid"
)

const source = `DATABASE WEST 2612 N46000000W120000000
AIRPORT KAAA K1 N46000000W120000000 0
AIRPORT KBBB K1 N48000000W120000000 0
RUNWAY RW36 KBBB N47590000W120000000 0
WAYPOINT A K1 N46200000W120000000
WAYPOINT B K1 N46500000W119400000
WAYPOINT C K1 N47300000W120000000
WAYPOINT D K1 N45500000W120000000
AIRWAY V1
VIA A/K1 - BOTH
VIA B/K1 - BOTH
VIA C/K1
APPROACH KBBB I36
PART COMMON
LEG IF C/K1
LEG TF RW36/KBBB 1000
PART MISSED
LEG CA 180000000 2000+
LEG DF C/K1
`

// long is a route with an airway and an approach.
const long = "ROUTE KAAA A/K1 V1 C P=I36 KBBB/RW36"

func pt(x, y int64) api.Point { return api.Point{X: x, Y: y} }

func tables() api.Perf {
	return api.Perf{Name: "TEST", Empty: 60_000_000, MaxFuel: 40_000_000, Alts: []int64{0, 4_000_000}, Masses: []int64{60_000_000, 100_000_000},
		Climb: [][]int64{{4000, 3000}, {1000, 500}}, ClimbFlow: [][]int64{{6000, 7000}, {4000, 4500}}, Cruise: [][]int64{{3000, 3600}, {2000, 2500}},
		Descent: []int64{1500, 2500}, Idle: []int64{900, 600}, MaxSpeed: []int64{340, 300}, MinSpeed: []int64{120, 150}, Ref: 300, Extra: 3, Ceiling: 4_100_000}
}

func database(t *testing.T, text string) api.DB {
	db, diags := navdb.Compile(text)
	if len(diags) > 0 {
		t.Fatal(diags)
	}
	return db
}

func setting(t *testing.T) api.Setting {
	db := database(t, source)
	grid, _ := windgrid.Calm(10)
	return api.Setting{
		DBs: [2]api.DB{db, {}}, Day: db.Header.From, Perf: tables(), Grid: grid, Empty: 60_000_000, Reserve: 2_000_000,
		Options: api.Options{Speed: 250, Bank: 2000, Alt: 500_000, Gradient: 300}, Box: api.Box{X: 600, Y: 600}, Required: 6000,
		Level: 2_000_000, CAS: 280, Mach: 780, Accel: 10, Decel: 8, LimitAlt: 1_000_000, LimitSpeed: 250, Bank: 2500, Roll: 500,
	}
}

// rig is a computer with an aircraft that is put wherever a test wants it to be.
type rig struct {
	t  *testing.T
	u  *Unit
	s  api.Sense
	at api.Point
}

func newRig(t *testing.T, s api.Setting) *rig {
	u, e := New(s)
	if e != api.OK {
		t.Fatal(e)
	}
	return &rig{t: t, u: u, s: api.Sense{Fuel: 20_000_000, Drift: 1000, Velocity: api.Velocity{North: 250}}}
}

// reports returns what three sensors measure, which agree.
func reports(at api.Point, tick int64) []api.Report {
	var l []api.Report
	for source := 1; source <= 3; source++ {
		l = append(l, api.Report{Source: source, Kind: api.PositionReport, Point: at, Bound: 20, Weight: 1, Tick: tick})
	}
	return l
}

// cycle makes a cycle ten ticks later. The drift allows any move of up to 7500 units.
func (r *rig) cycle() api.Targets {
	r.s.Tick += 10
	r.s.Reports = reports(r.at, r.s.Tick)
	return r.u.Cycle([]api.Sense{r.s})
}

// move goes to a point by many cycles.
func (r *rig) move(to api.Point) {
	for r.at != to {
		r.at.X += min(max(to.X-r.at.X, -6000), 6000)
		r.at.Y += min(max(to.Y-r.at.Y, -6000), 6000)
		r.cycle()
	}
}

// do performs commands, which must have no error.
func (r *rig) do(commands ...string) {
	r.t.Helper()
	for _, c := range commands {
		if e := r.u.Do(c); e != api.OK {
			r.t.Fatalf("%s: %v", c, e)
		}
	}
}

// climb puts the aircraft in the air at an altitude.
func (r *rig) climb(alt int64) { r.s.Ground, r.s.Alt = false, alt }
