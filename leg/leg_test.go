package leg

import (
	"math"
	"strings"
	"testing"

	"flightdeck/api"
)

// rule is a row of the chapter's table.
type rule struct {
	t      api.LegType
	name   string
	fields string // F fix, C center, T turn, O over, c course, d dist, r radius, t theta, A needs an altitude
}

func rules() []rule {
	return []rule{{api.IF, "IF", "F"}, {api.TF, "TF", "FO"}, {api.CF, "CF", "FOc"}, {api.DF, "DF", "FO"}, {api.RF, "RF", "FCTr"}, {api.AF, "AF", "FCTr"}, {api.CA, "CA", "cA"}, {api.CD, "CD", "Ccd"}, {api.CI, "CI", "c"}, {api.CR, "CR", "Cct"}, {api.FA, "FA", "FcA"}, {api.FC, "FC", "Fcd"}, {api.FM, "FM", "Fc"}, {api.HA, "HA", "FTcdA"}, {api.HF, "HF", "FTcd"}, {api.HM, "HM", "FTcd"}, {api.PI, "PI", "FTcd"}}
}

// make fills the fields that a type uses.
func (r rule) leg() api.Leg {
	l := api.Leg{Type: r.t, Alt: free()}
	for _, f := range r.fields {
		switch f {
		case 'F':
			l.Fix = "SEA/K1"
		case 'C':
			l.Center = "CTR01/K1"
		case 'T':
			l.Turn = api.Right
		case 'c':
			l.Course = 160 * api.Degree
		case 'd':
			l.Dist = 75_000
		case 'r':
			l.Radius = 18_000
		case 't':
			l.Theta = 1
		case 'A':
			l.Alt.Lo = 500_000
		}
	}
	return l
}

// P16.1: every field of every type, good and bad.
func TestCheck(t *testing.T) {
	for _, r := range rules() {
		has := func(f string) bool { return strings.Contains(r.fields, f) }
		try := func(name string, change func(l *api.Leg), want api.Errno) {
			t.Helper()
			l := r.leg()
			change(&l)
			if e := Check(l); e != want {
				t.Errorf("%s with %s: %v, want %v", r.name, name, e, want)
			}
		}
		// one has the error of a field that is wrong where it is used, and where it is not.
		one := func(name, f string, change func(l *api.Leg), used, unused api.Errno) {
			t.Helper()
			if has(f) {
				try(name, change, used)
			} else {
				try(name, change, unused)
			}
		}
		try("nothing", func(l *api.Leg) {}, api.OK)
		one("no fix", "F", func(l *api.Leg) { l.Fix = "" }, api.ErrName, api.OK)
		one("a bad fix", "F", func(l *api.Leg) { l.Fix = "SEA" }, api.ErrName, api.ErrArg)
		one("a fix", "F", func(l *api.Leg) { l.Fix = "A/00" }, api.OK, api.ErrArg)
		one("no center", "C", func(l *api.Leg) { l.Center = "" }, api.ErrName, api.OK)
		one("a bad center", "C", func(l *api.Leg) { l.Center = "/K1" }, api.ErrName, api.ErrArg)
		one("a center", "C", func(l *api.Leg) { l.Center = "A/00" }, api.OK, api.ErrArg)
		one("no turn", "T", func(l *api.Leg) { l.Turn = 0 }, api.ErrArg, api.OK)
		one("turn 3", "T", func(l *api.Leg) { l.Turn = 3 }, api.ErrArg, api.ErrArg)
		one("a left turn", "T", func(l *api.Leg) { l.Turn = api.Left }, api.OK, api.ErrArg)
		one("over", "O", func(l *api.Leg) { l.Over = true }, api.OK, api.ErrArg)
		one("course 0", "c", func(l *api.Leg) { l.Course = 0 }, api.OK, api.OK)
		one("course -1", "c", func(l *api.Leg) { l.Course = -1 }, api.ErrRange, api.ErrArg)
		one("the last course", "c", func(l *api.Leg) { l.Course = api.Circle - 1 }, api.OK, api.ErrArg)
		one("a whole circle", "c", func(l *api.Leg) { l.Course = api.Circle }, api.ErrRange, api.ErrArg)
		one("theta 0", "t", func(l *api.Leg) { l.Theta = 0 }, api.OK, api.OK)
		one("theta -1", "t", func(l *api.Leg) { l.Theta = -1 }, api.ErrRange, api.ErrArg)
		one("theta of a circle", "t", func(l *api.Leg) { l.Theta = api.Circle }, api.ErrRange, api.ErrArg)
		one("the last theta", "t", func(l *api.Leg) { l.Theta = api.Circle - 1 }, api.OK, api.ErrArg)
		one("dist 0", "d", func(l *api.Leg) { l.Dist = 0 }, api.ErrRange, api.OK)
		one("dist 1", "d", func(l *api.Leg) { l.Dist = 1 }, api.OK, api.ErrArg)
		one("the greatest dist", "d", func(l *api.Leg) { l.Dist = api.MaxXY }, api.OK, api.ErrArg)
		one("too great a dist", "d", func(l *api.Leg) { l.Dist = api.MaxXY + 1 }, api.ErrRange, api.ErrArg)
		one("radius 0", "r", func(l *api.Leg) { l.Radius = 0 }, api.ErrRange, api.OK)
		one("radius -1", "r", func(l *api.Leg) { l.Radius = -1 }, api.ErrRange, api.ErrArg)
		one("the greatest radius", "r", func(l *api.Leg) { l.Radius = api.MaxXY }, api.OK, api.ErrArg)
		one("too great a radius", "r", func(l *api.Leg) { l.Radius = api.MaxXY + 1 }, api.ErrRange, api.ErrArg)
		one("no altitude", "A", func(l *api.Leg) { l.Alt = free() }, api.ErrRange, api.OK)
		try("Lo below", func(l *api.Leg) { l.Alt.Lo = api.MinAlt - 1 }, api.ErrRange)
		try("Hi above", func(l *api.Leg) { l.Alt.Hi = api.MaxAlt + 1 }, api.ErrRange)
		try("an empty window", func(l *api.Leg) { l.Alt = api.Window{Lo: 6, Hi: 5} }, api.ErrRange)
		try("one altitude", func(l *api.Leg) { l.Alt = api.Window{Lo: 5, Hi: 5} }, api.OK)
		try("speed -1", func(l *api.Leg) { l.Speed = -1 }, api.ErrRange)
		try("speed 1000", func(l *api.Leg) { l.Speed = 1000 }, api.OK)
		try("speed 1001", func(l *api.Leg) { l.Speed = 1001 }, api.ErrRange)
		try("RNP -1", func(l *api.Leg) { l.RNP = -1 }, api.ErrRange)
		try("the greatest RNP", func(l *api.Leg) { l.RNP = 120_000 }, api.OK)
		try("too great an RNP", func(l *api.Leg) { l.RNP = 120_001 }, api.ErrRange)
	}
	for _, k := range []api.LegType{0, 18, 255} {
		l := api.Leg{Type: k, Fix: "x", Turn: 9}
		if Check(l) != api.ErrType || Text(l) != "" || Name(k) != "" || Ends(k) || From(k) || Starts(k) {
			t.Errorf("type %d", k)
		}
	}
}

// P16.1: the first wrong field in the order of the chapter decides.
func TestCheckOrder(t *testing.T) {
	l := api.Leg{Type: api.HM, Fix: "x", Center: "x", Turn: 0, Over: true, Course: -1, Dist: 0, Radius: 1, Theta: 1, Alt: api.Window{Lo: 1}, Speed: -1, RNP: -1}
	for _, step := range []struct {
		want api.Errno
		mend func()
	}{
		{api.ErrName, func() { l.Fix = "SEA/K1" }}, {api.ErrArg, func() { l.Center = "" }}, {api.ErrArg, func() { l.Turn = 1 }}, {api.ErrArg, func() { l.Over = false }}, {api.ErrRange, func() { l.Course = 0 }}, {api.ErrRange, func() { l.Dist = 1 }}, {api.ErrArg, func() { l.Radius = 0 }}, {api.ErrArg, func() { l.Theta = 0 }}, {api.ErrRange, func() { l.Alt.Hi = 1 }}, {api.ErrRange, func() { l.Speed = 0 }}, {api.ErrRange, func() { l.RNP = 0 }}, {api.OK, func() {}},
	} {
		if e := Check(l); e != step.want {
			t.Errorf("%+v: %v, want %v", l, e, step.want)
		}
		step.mend()
	}
	if e := Check(api.Leg{Type: api.CD, Fix: "x", Center: "x"}); e != api.ErrArg {
		t.Errorf("Fix goes ahead of Center: %v", e)
	}
	if e := Check(api.Leg{Type: api.RF, Fix: "A/00", Center: "x", Turn: 9}); e != api.ErrName {
		t.Errorf("Center goes ahead of Turn: %v", e)
	}
}

// P16.2, P16.3, P16.4
func TestOrder(t *testing.T) {
	ends := " IF TF CF DF RF AF HA HF HM PI "
	from := " FA FC FM HA HF HM PI "
	starts := " IF CF DF "
	after := map[string]string{}
	for _, n := range []string{"IF", "TF", "CF", "DF", "RF", "AF"} {
		after[n] = " TF CF DF RF AF CA CD CI CR FA FC FM HA HF HM PI "
	}
	for _, n := range []string{"HA", "HF", "HM", "PI"} {
		after[n] = " TF CF DF CA CD CI CR FA FC FM "
	}
	for _, n := range []string{"CA", "CD", "CR", "FA", "FC"} {
		after[n] = " CF DF CA CD CI CR "
	}
	after["CI"] = " CF "
	for _, a := range rules() {
		if Name(a.t) != a.name || Ends(a.t) != strings.Contains(ends, " "+a.name+" ") || From(a.t) != strings.Contains(from, " "+a.name+" ") || Starts(a.t) != strings.Contains(starts, " "+a.name+" ") {
			t.Errorf("%s: %s, %v, %v, %v", a.name, Name(a.t), Ends(a.t), From(a.t), Starts(a.t))
		}
		for _, b := range rules() {
			want := strings.Contains(after[a.name], " "+b.name+" ")
			if Follows(a.t, b.t) != want {
				t.Errorf("Follows(%s, %s) = %v", a.name, b.name, !want)
			}
			begins := strings.Contains(from, " "+b.name+" ")
			if got := Joins(api.Leg{Type: a.t, Fix: "A/00", Speed: -5}, api.Leg{Type: b.t, Fix: "B/00"}); got != (want && !begins) {
				t.Errorf("Joins(%s, %s) at different fixes = %v", a.name, b.name, got)
			}
			if got := Joins(api.Leg{Type: a.t, Fix: "x"}, api.Leg{Type: b.t, Fix: "x"}); got != want {
				t.Errorf("Joins(%s, %s) at one fix = %v", a.name, b.name, got)
			}
		}
		for _, k := range []api.LegType{0, 18, 255} {
			if Follows(a.t, k) || Follows(k, a.t) {
				t.Errorf("%s and %d", a.name, k)
			}
		}
	}
}

// P16.5, P16.7
func TestText(t *testing.T) {
	for want, l := range map[string]api.Leg{
		"TF SEA/K1":                          {Type: api.TF, Fix: "SEA/K1", Alt: free()},
		"TF SEA/K1 over 10000+ s250":         {Type: api.TF, Fix: "SEA/K1", Over: true, Alt: api.Window{Lo: 1_000_000, Hi: api.MaxAlt}, Speed: 250},
		"RF ELMAA/K1 @CTR01/K1 R r3":         {Type: api.RF, Fix: "ELMAA/K1", Center: "CTR01/K1", Turn: api.Right, Radius: 18_000, Alt: free()},
		"AF ELMAA/K1 @CTR01/K1 L r3+1":       {Type: api.AF, Fix: "ELMAA/K1", Center: "CTR01/K1", Turn: api.Left, Radius: 18_001, Alt: free()},
		"HM SEA/K1 R 160000000 d5 5000:9000": {Type: api.HM, Fix: "SEA/K1", Turn: api.Right, Course: 160 * api.Degree, Dist: 30_000, Alt: api.Window{Lo: 500_000, Hi: 900_000}},
		"CD @SEA/K1 160000000 d12+3000":      {Type: api.CD, Center: "SEA/K1", Course: 160 * api.Degree, Dist: 75_000, Alt: free()},
		"CR @SEA/K1 359595999 t000000001":    {Type: api.CR, Center: "SEA/K1", Course: api.Circle - 1, Theta: 1, Alt: free()},
		"CA 000000000 0.01 n20":              {Type: api.CA, Alt: api.Window{Lo: 1, Hi: 1}, RNP: 120_000},
		"IF RW16L/KSEA 5000- s1000 n0+1":     {Type: api.IF, Fix: "RW16L/KSEA", Alt: api.Window{Lo: api.MinAlt, Hi: 500_000}, Speed: 1000, RNP: 1},
	} {
		if got := Text(l); got != want {
			t.Errorf("Text(%v) = %q, want %q", l, got, want)
		}
		if got, column, e := Parse(want); got != l || column != 0 || e != api.OK {
			t.Errorf("Parse(%q) = %v, %d, %v", want, got, column, e)
		}
	}
	for _, r := range rules() {
		for i := range 16 {
			l := r.leg()
			l.Over = i&1 == 1 && strings.Contains(r.fields, "O")
			if i&2 == 2 {
				l.Alt = api.Window{Lo: 400_000, Hi: 500_025}
			}
			if i&4 == 4 {
				l.Speed = 7
			}
			if i&8 == 8 {
				l.RNP = 300
			}
			s := Text(l)
			if got, column, e := Parse(s); s == "" || got != l || column != 0 || e != api.OK || Text(got) != s {
				t.Errorf("%q becomes %v, %d, %v", s, got, column, e)
			}
		}
	}
	if Text(api.Leg{Type: api.TF, Fix: "SEA/K1", Course: 1, Alt: free()}) != "" {
		t.Errorf("the text of a leg that is not valid")
	}
}

// P16.6
func TestParseErrors(t *testing.T) {
	for s, want := range map[string]struct {
		column int
		e      api.Errno
	}{
		"": {1, api.ErrForm}, " ": {1, api.ErrForm}, "XX": {1, api.ErrForm}, "tf SEA/K1": {1, api.ErrForm}, " TF SEA/K1": {1, api.ErrForm}, "TFX": {1, api.ErrForm},
		"TF": {4, api.ErrForm}, "TF ": {4, api.ErrForm}, "TF  SEA/K1": {4, api.ErrForm}, "TF SEA": {4, api.ErrForm}, "TF @SEA/K1": {4, api.ErrForm}, "TF SEA/K1 ": {11, api.ErrForm},
		"TF SEA/K1 s250 over": {16, api.ErrForm}, "TF SEA/K1 over over": {16, api.ErrForm}, "TF SEA/K1 5000 over": {16, api.ErrForm}, "TF SEA/K1 n1 s250": {14, api.ErrForm}, "TF SEA/K1 n1 n1": {14, api.ErrForm}, "TF SEA/K1 s1 s1": {14, api.ErrForm}, "TF SEA/K1 5000 6000": {16, api.ErrForm},
		"TF SEA/K1 -": {11, api.ErrForm}, "TF SEA/K1 5000:5000": {11, api.ErrForm}, "TF SEA/K1 60001": {11, api.ErrForm}, "TF SEA/K1 6:5": {11, api.ErrForm},
		"TF SEA/K1 s": {11, api.ErrForm}, "TF SEA/K1 s0": {11, api.ErrForm}, "TF SEA/K1 s01": {11, api.ErrForm}, "TF SEA/K1 s-1": {11, api.ErrForm}, "TF SEA/K1 s+1": {11, api.ErrForm}, "TF SEA/K1 s10000": {11, api.ErrForm}, "TF SEA/K1 s1x": {11, api.ErrForm}, "TF SEA/K1 s1\u0660": {11, api.ErrForm}, "TF SEA/K1 S250": {11, api.ErrForm},
		"TF SEA/K1 n": {11, api.ErrForm}, "TF SEA/K1 n0": {11, api.ErrForm}, "TF SEA/K1 n1+0": {11, api.ErrForm}, "TF SEA/K1 n2000": {11, api.ErrForm}, "TF SEA/K1  s250": {11, api.ErrForm},
		"RF A/00 B/00 R r3": {9, api.ErrForm}, "RF A/00 @B R r3": {9, api.ErrForm}, "RF A/00 @B/00 X r3": {15, api.ErrForm}, "RF A/00 @B/00 r3": {15, api.ErrForm}, "RF A/00 @B/00 R": {17, api.ErrForm}, "RF A/00 @B/00 R d3": {17, api.ErrForm}, "RF A/00 @B/00 R r0": {17, api.ErrForm}, "RF A/00 @B/00 R 3": {17, api.ErrForm},
		"CA 16000000": {4, api.ErrForm}, "CA 160600000": {4, api.ErrForm}, "CA 360000000": {4, api.ErrForm}, "CR @B/00 000000000 000000000": {20, api.ErrForm}, "CR @B/00 000000000 t360000000": {20, api.ErrForm}, "CD @B/00 000000000 d1+": {20, api.ErrForm}, "HM A/00 R 000000000": {21, api.ErrForm},
		"CA 160000000": {0, api.ErrRange}, "CA 160000000 5000-": {0, api.ErrRange}, "CA 160000000 over 5000": {0, api.ErrArg}, "TF SEA/K1 s1001": {0, api.ErrRange}, "TF SEA/K1 n20+1": {0, api.ErrRange}, "CD @B/00 000000000 d333+2001": {0, api.ErrRange}, "IF A/00 over": {0, api.ErrArg},
	} {
		if l, column, e := Parse(s); l != (api.Leg{}) || column != want.column || e != want.e {
			t.Errorf("Parse(%q) = %v, %d, %v, want %d, %v", s, l, column, e, want.column, want.e)
		}
	}
	if l, _, e := Parse("CD @B/00 000000000 d333+2000"); e != api.OK || l.Dist != api.MaxXY {
		t.Errorf("the greatest distance: %v, %v", l, e)
	}
	if Text(api.Leg{Type: api.TF, Fix: "A/00", Alt: free(), Speed: math.MaxInt64}) != "" {
		t.Errorf("a speed out of range")
	}
}
