package modes

import (
	"math"
	"slices"
	"strings"
	"testing"

	"flightdeck/api"
	"flightdeck/chart"
	"flightdeck/chartcheck"
)

// P49.1
func TestNames(t *testing.T) {
	want := []string{"GROUND", "HEADING", "NAV", "READY", "ZONE", "FINAL", "GO", "HOLD", "SPEED", "CHANGE", "ABOVE", "TAKE", "NEAR", "AT", "THRUST", "ACCEL", "LEVEL", "DOWN", "STOPPED"}
	if got := Names(); !slices.Equal(got, want) {
		t.Errorf("%v", got)
	}
	for i, c := range []uint32{Ground, Heading, Nav, Ready, Zone, Final, Go, Hold, Speed, Change, Above, Take, Near, At, Thrust, Accel, Level, Down, Stopped} {
		if c != 1<<i {
			t.Errorf("%s is %d", want[i], c)
		}
	}
}

// P49.2, P49.3
func TestCharts(t *testing.T) {
	counts := [4][3]int{{}, {7, 28, 7}, {11, 27, 9}, {8, 31, 9}}
	for axis := Lateral; axis <= Phase; axis++ {
		c, e := Chart(axis)
		if s, f := chart.Text(c); s != Source(axis) || s == "" || e != api.OK || f != api.OK {
			t.Errorf("axis %d: %v, %v", axis, e, f)
		}
		if l, e := chartcheck.Findings(c); len(l) > 0 || e != api.OK {
			t.Errorf("axis %d: %v, %v", axis, l, e)
		}
		if got := [3]int{len(c.Conds), len(c.Transitions), len(c.States)}; got != counts[axis] {
			t.Errorf("axis %d: %v", axis, got)
		}
	}
	if !strings.HasPrefix(Source(Lateral), "CHART LATERAL ROLL\nCONDITION GROUND\n") || !strings.HasPrefix(Source(Vertical), "CHART VERTICAL HOLD\n") || !strings.HasPrefix(Source(Phase), "CHART PHASE PREFLT\n") {
		t.Errorf("the sources")
	}
	for _, axis := range []int{0, 4, -1, math.MaxInt} {
		c, e := Chart(axis)
		if Source(axis) != "" || c.Name != "" || e != api.ErrArg || ModeName(axis, 1) != "" {
			t.Errorf("axis %d: %v", axis, e)
		}
		if v, e := Valuation(axis, 1<<31); v != 0 || e != api.ErrArg {
			t.Errorf("axis %d: %d, %v", axis, v, e)
		}
	}
}

// P49.4
func TestModes(t *testing.T) {
	names := map[int][]string{
		Lateral:  {"", "ROLL", "HEADING", "ARMED", "NAV", "APPROACH", "GOAROUND", ""},
		Vertical: {"", "HOLD", "CLIMB", "DESCEND", "SPEED", "CAPTURE", "PATH", "GLIDE", "GOAROUND", ""},
		Phase:    {"", "PREFLT", "TAKEOFF", "CLIMB", "CRUISE", "DESCENT", "APPROACH", "GOAROUND", "LANDED", ""},
	}
	for axis, l := range names {
		for mode, want := range l {
			if got := ModeName(axis, byte(mode)); got != want {
				t.Errorf("ModeName(%d, %d) = %q", axis, mode, got)
			}
		}
		if ModeName(axis, 255) != "" {
			t.Errorf("mode 255 of axis %d", axis)
		}
	}
	if Start() != (State{api.LatRoll, api.VertHold, api.PhasePreflight}) || Text(Start()) != "ROLL HOLD PREFLT" {
		t.Errorf("Start: %v", Start())
	}
	for lat := range byte(9) {
		for vert := range byte(11) {
			for phase := range byte(11) {
				s := State{lat, vert, phase}
				valid := lat >= 1 && lat <= 6 && vert >= 1 && vert <= 8 && phase >= 1 && phase <= 8
				if Valid(s) != valid {
					t.Errorf("Valid(%v)", s)
				}
				want := ""
				if valid {
					want = names[Lateral][lat] + " " + names[Vertical][vert] + " " + names[Phase][phase]
				}
				if got := Text(s); got != want {
					t.Errorf("Text(%v) = %q", s, got)
				}
				if got, e := Parse(want); valid && (got != s || e != api.OK) {
					t.Errorf("Parse(%q) = %v, %v", want, got, e)
				}
				if _, events, e := Step(s, 1<<31); len(events) > 0 || !valid && e != api.ErrState || valid && e != api.ErrArg {
					t.Errorf("Step(%v): %v", s, e)
				}
			}
		}
	}
	for _, s := range []string{"", "ROLL HOLD", "ROLL HOLD PREFLT X", "ROLL  HOLD PREFLT", " ROLL HOLD PREFLT", "ROLL HOLD PREFLT ", "roll HOLD PREFLT", "ON HOLD PREFLT", "ROLL ON PREFLT", "ROLL HOLD AIR", "HOLD ROLL PREFLT", "ROLL HOLD LANDE", "  "} {
		if got, e := Parse(s); got != (State{}) || e != api.ErrForm {
			t.Errorf("Parse(%q) = %v, %v", s, got, e)
		}
	}
}

// P49.5
func TestValuation(t *testing.T) {
	for axis := Lateral; axis <= Phase; axis++ {
		c, _ := Chart(axis)
		names := Names()
		x := uint32(axis)
		for range 3000 {
			x = x*1664525 + 1013904223
			conds := x >> 13
			var want uint16
			for i, name := range c.Conds {
				want |= uint16(conds>>slices.Index(names, name)&1) << i
			}
			v, e := Valuation(axis, conds)
			if chart.Allowed(c, want) && (v != want || e != api.OK) || !chart.Allowed(c, want) && (v != 0 || e != api.ErrConflict) {
				t.Fatalf("Valuation(%d, %x) = %d, %v", axis, conds, v, e)
			}
		}
		for _, conds := range []uint32{1 << 19, 1 << 31, math.MaxUint32} {
			if v, e := Valuation(axis, conds); v != 0 || e != api.ErrArg {
				t.Errorf("Valuation(%d, %x) = %d, %v", axis, conds, v, e)
			}
		}
	}
	for _, c := range []struct {
		axis  int
		conds uint32
		want  uint16
		e     api.Errno
	}{{Lateral, Go | Ready | At, 1<<6 | 1<<3, api.OK}, {Vertical, Take, 0, api.ErrConflict}, {Vertical, Take | Ready, 1<<8 | 1<<1, api.OK}, {Vertical, At, 0, api.ErrConflict}, {Lateral, At | Take, 0, api.OK}, {Phase, Ground | Accel, 0, api.ErrConflict}, {Phase, Stopped, 0, api.ErrConflict}, {Phase, Ground | Stopped, 1 | 1<<7, api.OK}} {
		if v, e := Valuation(c.axis, c.conds); v != c.want || e != c.e {
			t.Errorf("Valuation(%d, %x) = %d, %v", c.axis, c.conds, v, e)
		}
	}
}

// P49.6
func TestStep(t *testing.T) {
	state := func(s string) State {
		x, e := Parse(s)
		if e != api.OK {
			t.Fatal(s)
		}
		return x
	}
	for i, c := range []struct {
		from   string
		conds  uint32
		to     string
		events string
		e      api.Errno
	}{
		{"ROLL HOLD PREFLT", Ground | Thrust, "ROLL HOLD TAKEOFF", "", api.OK},
		{"ROLL HOLD TAKEOFF", Nav | Ready | Zone, "NAV HOLD TAKEOFF", "CAPTURED", api.OK},
		{"NAV HOLD TAKEOFF", Accel, "HEADING HOLD CLIMB", "LATREV", api.OK},
		{"ROLL HOLD TAKEOFF", Change | Above, "ROLL CLIMB TAKEOFF", "", api.OK},
		{"ROLL CLIMB TAKEOFF", Near, "ROLL CAPTURE TAKEOFF", "", api.OK},
		{"ROLL CAPTURE TAKEOFF", Near | At, "ROLL HOLD TAKEOFF", "", api.OK},
		{"NAV PATH CRUISE", 0, "HEADING HOLD CLIMB", "LATREV VERTREV", api.OK},
		{"ARMED CAPTURE CRUISE", Ready | Zone | Final, "APPROACH DESCEND APPROACH", "CAPTURED OVERSHOT", api.OK},
		{"NAV GLIDE APPROACH", Ground, "ROLL HOLD LANDED", "LANDING", api.OK},
		{"NAV GLIDE APPROACH", Go | Ready, "GOAROUND GOAROUND GOAROUND", "", api.OK},
		{"HEADING HOLD DESCENT", Take | Ready | Final | Nav | Zone, "APPROACH GLIDE APPROACH", "CAPTURED CAPTURED", api.OK},
		{"ROLL HOLD TAKEOFF", Ground, "ROLL HOLD PREFLT", "REJECTED", api.OK},
		{"ROLL HOLD LANDED", 0, "ROLL HOLD CLIMB", "TOUCHGO", api.OK},
		{"ROLL HOLD PREFLT", Take, "", "", api.ErrConflict}, {"ROLL HOLD PREFLT", At, "", "", api.ErrConflict}, {"ROLL HOLD PREFLT", 1 << 19, "", "", api.ErrArg}, {"ROLL HOLD PREFLT", Ground | Accel, "", "", api.ErrConflict},
	} {
		got, events, e := Step(state(c.from), c.conds)
		if Text(got) != c.to || strings.Join(events, " ") != c.events || e != c.e || e != api.OK && (got != (State{}) || len(events) > 0) {
			t.Errorf("case %d: %s, %v, %v", i, Text(got), events, e)
		}
	}
	if _, _, e := Step(State{}, 1<<19); e != api.ErrState {
		t.Errorf("no state: %v", e)
	}
}

// P49.7
func TestAlways(t *testing.T) {
	s := Start()
	x := uint32(7)
	steps := 0
	for range 3000 {
		x = x*1664525 + 1013904223
		next, _, e := Step(s, x>>13)
		if e != api.OK {
			if e != api.ErrConflict || next != (State{}) {
				t.Fatalf("Step: %v", e)
			}
			continue
		}
		steps++
		s = next
		if !Valid(s) {
			t.Fatalf("%v", s)
		}
	}
	if steps < 500 {
		t.Errorf("only %d steps", steps)
	}
}
