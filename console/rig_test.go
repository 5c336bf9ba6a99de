package console

import (
	"math/rand"
	"reflect"
	"testing"

	"flightdeck/api"
	"flightdeck/navdb"
	"flightdeck/windgrid"
)

const source = `DATABASE WEST 2612 N46000000W120000000
AIRPORT KAAA K1 N46000000W120000000 0
AIRPORT KBBB K1 N48000000W120000000 0
RUNWAY RW36 KBBB N47590000W120000000 0
WAYPOINT A K1 N46200000W120000000
WAYPOINT B K1 N46500000W119400000
WAYPOINT C K1 N47300000W120000000
AIRWAY V1
VIA A/K1 - BOTH
VIA B/K1 - BOTH
VIA C/K1
APPROACH KBBB I36
PART COMMON
LEG IF C/K1
LEG TF RW36/KBBB 1000
PART MISSED
LEG CA 180000000 2000+
LEG DF C/K1
`

// long is a route with an airway and an approach.
const long = "ROUTE KAAA A/K1 V1 C P=I36 KBBB/RW36"

func pt(x, y int64) api.Point { return api.Point{X: x, Y: y} }

func setting(t *testing.T) api.Setting {
	t.Helper()
	db, diags := navdb.Compile(source)
	if len(diags) > 0 {
		t.Fatal(diags)
	}
	grid, _ := windgrid.Calm(10)
	tables := api.Perf{Name: "TEST", Empty: 60_000_000, MaxFuel: 40_000_000, Alts: []int64{0, 4_000_000}, Masses: []int64{60_000_000, 100_000_000},
		Climb: [][]int64{{4000, 3000}, {1000, 500}}, ClimbFlow: [][]int64{{6000, 7000}, {4000, 4500}}, Cruise: [][]int64{{3000, 3600}, {2000, 2500}},
		Descent: []int64{1500, 2500}, Idle: []int64{900, 600}, MaxSpeed: []int64{340, 300}, MinSpeed: []int64{120, 150}, Ref: 300, Extra: 3, Ceiling: 4_100_000}
	return api.Setting{
		DBs: [2]api.DB{db, {}}, Day: db.Header.From, Perf: tables, Grid: grid, Empty: 60_000_000, Reserve: 2_000_000,
		Options: api.Options{Speed: 250, Bank: 2000, Alt: 500_000, Gradient: 300}, Box: api.Box{X: 600, Y: 600}, Required: 6000,
		Level: 2_000_000, CAS: 280, Mach: 780, Accel: 10, Decel: 8, LimitAlt: 1_000_000, LimitSpeed: 250, Bank: 2500, Roll: 500,
	}
}

// scenario is an aircraft in the air at 5000 ft with four sensors for each computer; two sources are measured by both.
func scenario(t *testing.T) api.Scenario {
	t.Helper()
	var l []api.Sensor
	for i, source := range [8]int{1, 1, 2, 2, 3, 4, 5, 6} {
		l = append(l, api.Sensor{Computer: i%2 + 1, Source: source, Kind: api.PositionReport, Bound: 60, Weight: int64(i%3 + 1)})
	}
	l[6].Kind, l[6].Point = api.RangeReport, pt(-90_000, 300_000)
	l[7].Kind, l[7].Point = api.RangeReport, pt(90_000, 300_000)
	return api.Scenario{Setting: setting(t), Craft: api.Craft{Alt: 500_000, CAS: 250, Fuel: 60_000_000}, Sensors: l, Rates: [4]int64{500, 20, 6_000_000, 1000}}
}

func begin(t *testing.T, s api.Scenario) *System {
	t.Helper()
	x, e := New(s)
	if e != api.OK {
		t.Fatal(e)
	}
	return x
}

func cycle(t *testing.T, x *System, h api.Happening) api.Summary {
	t.Helper()
	r, e := x.Cycle(h)
	if e != api.OK {
		t.Fatal(e)
	}
	return r
}

// same compares everything that two systems show.
func same(t *testing.T, a, b *System) {
	t.Helper()
	if a.Craft() != b.Craft() || !reflect.DeepEqual(a.Faults(), b.Faults()) || !reflect.DeepEqual(a.Record(), b.Record()) {
		t.Fatalf("%v and %v", a.Craft(), b.Craft())
	}
	for computer := 1; computer <= 2; computer++ {
		if !reflect.DeepEqual(a.View(computer), b.View(computer)) {
			t.Fatalf("computer %d: %v and %v", computer, a.View(computer), b.View(computer))
		}
	}
}

// world makes random happenings. At most one source is faulty in each cycle; its errors are any.
type world struct {
	*rand.Rand
	sensors []api.Sensor
	mild    bool // nothing but the aircraft, the sensors and the crew
}

func (w world) spread(n int64) int64 { return w.Int63n(2*n+1) - n }

func (w world) chance(n int) bool { return w.Intn(n) == 0 }

// errors returns errors within the bounds, but for one source.
func (w world) errors() [][2]int64 {
	var l [][2]int64
	faulty := w.Intn(9)
	for _, s := range w.sensors {
		size := s.Bound - 1
		if s.Source == faulty && w.chance(2) {
			size = 100_000
		}
		l = append(l, [2]int64{w.spread(size), w.spread(size)})
	}
	return l
}

var crew = [...]string{"", "", "", "", "", "NAV", "PATH", "EXEC", "ACK", "CHG", "HOLD", "GA", "HDG 20", "HDG 340", "ALT 12000", "ALT 3000", "VS 1500", "VS -800", "SPD 220", "SPD 0", "UNDO", "REDO", "ERASE", "NONSENSE", "EDIT DIRECT 2", "EDIT DELETE 1", long}

func (w world) moment() api.Moment {
	m := api.Moment{Wind: api.Wind{East: w.spread(60), North: w.spread(60)}, Errors: w.errors(), Slip: api.Velocity{East: w.spread(20), North: w.spread(20)}, Thrust: w.chance(20), Stopped: w.chance(20)}
	if w.chance(4) {
		m.Silent = uint16(w.Intn(256))
	}
	for i := range m.Commands {
		m.Commands[i] = crew[w.Intn(len(crew))]
	}
	return m
}

func (w world) happening() api.Happening {
	h := api.Happening{Moment: w.moment()}
	if w.mild {
		return h
	}
	for i := range 2 {
		h.Stop[i], h.Restart[i], h.Corrupt[i] = w.chance(60), w.chance(10), w.chance(60)
		if w.chance(40) {
			h.Wrong[i] = w.spread(1 << 40)
		}
		for k := range h.Fates[i] {
			h.Fates[i][k].Lost = w.chance(40)
			if w.chance(40) {
				h.Fates[i][k].Bit, h.Fates[i][k].Pattern = w.Intn(900), w.Uint32()
			}
		}
	}
	return h
}
