package plan

import (
	"math"
	"slices"
	"strings"
	"testing"

	"flightdeck/api"
	"flightdeck/leg"
	"flightdeck/navdb"
)

// entry reads the leg of an enroute entry; "GAP" is a gap.
func entry(text string) api.Entry {
	if text == "GAP" {
		return api.Entry{Gap: true}
	}
	l, _, e := leg.Parse(text)
	if e != api.OK {
		panic(text)
	}
	return api.Entry{Leg: l, Section: api.SecEnroute}
}

// entries reads entries, separated by semicolons.
func entries(text string) []api.Entry {
	var l []api.Entry
	for _, s := range strings.Split(text, ";") {
		l = append(l, entry(s))
	}
	return l
}

func planOf(text string) api.Plan {
	return api.Plan{From: "KSEA", To: "KPDX/RW28R", Entries: entries(text), Active: -1}
}

const ordinary = "IF A/00;TF B/00;GAP;DF C/00;CA 000000000 5000;DF D/00;HM D/00 R 000000000 d5;TF E/00"

// P21.1
func TestCheck(t *testing.T) {
	for i, c := range []struct {
		change func(p *api.Plan)
		want   api.Errno
	}{
		{func(p *api.Plan) {}, api.OK},
		{func(p *api.Plan) { p.From, p.To = "", "" }, api.OK},
		{func(p *api.Plan) { p.From = "KSEATA"; p.To = "ABCDEF/ABCDEF" }, api.OK},
		{func(p *api.Plan) { p.From = "KSEATAC" }, api.ErrName},
		{func(p *api.Plan) { p.From = "KSEA/"; p.Entries = make([]api.Entry, 99) }, api.ErrName},
		{func(p *api.Plan) { p.From = "/RW16L" }, api.ErrName},
		{func(p *api.Plan) { p.From = "KSEA/RW16L/X" }, api.ErrName},
		{func(p *api.Plan) { p.To = "KSEA/ABCDEFG" }, api.ErrName},
		{func(p *api.Plan) { p.To = "ksea"; p.Active = 99 }, api.ErrName},
		{func(p *api.Plan) { p.Entries = make([]api.Entry, 61); p.Active = 99 }, api.ErrLimit},
		{func(p *api.Plan) { p.Entries = make([]api.Entry, 60) }, api.ErrType},
		{func(p *api.Plan) { p.Entries[2].Via = "X" }, api.ErrArg},
		{func(p *api.Plan) { p.Entries[2].Leg.Speed = 1 }, api.ErrArg},
		{func(p *api.Plan) { p.Entries[2].End.X = 1 }, api.ErrArg},
		{func(p *api.Plan) { p.Entries[0] = api.Entry{Gap: true} }, api.ErrOrder},
		{func(p *api.Plan) { p.Entries[7] = api.Entry{Gap: true} }, api.ErrOrder},
		{func(p *api.Plan) { p.Entries[3] = api.Entry{Gap: true} }, api.ErrOrder},
		{func(p *api.Plan) { p.Entries[1].Leg.Course = 1; p.Entries[1].Section = 9 }, api.ErrArg},
		{func(p *api.Plan) { p.Entries[1].Section = 0; p.Entries[1].Via = "1" }, api.ErrType},
		{func(p *api.Plan) { p.Entries[1].Section = 6 }, api.ErrType},
		{func(p *api.Plan) { p.Entries[1].Via = "ABCDEFGH.ABCDEFGH" }, api.OK},
		{func(p *api.Plan) { p.Entries[1].Via = "ABCDEFGHI" }, api.ErrName},
		{func(p *api.Plan) { p.Entries[1].Via = "A.B.C" }, api.ErrName},
		{func(p *api.Plan) { p.Entries[1].Via = "A." }, api.ErrName},
		{func(p *api.Plan) { p.Entries[1].Via = "-"; p.Entries[1].End.X = math.MaxInt64 }, api.ErrName},
		{func(p *api.Plan) { p.Entries[1].End.X = 2_000_001 }, api.ErrRange},
		{func(p *api.Plan) { p.Entries[1].Mid.Y = -2_000_001 }, api.ErrRange},
		{func(p *api.Plan) { p.Entries[1].End = api.Point{X: 2_000_000, Y: -2_000_000} }, api.OK},
		{func(p *api.Plan) { p.Entries[4].End.X = 1 }, api.ErrArg},
		{func(p *api.Plan) { p.Entries[1].Mid.X = 1 }, api.ErrArg},
		{func(p *api.Plan) { p.Entries[0] = entry("TF A/00") }, api.ErrOrder},
		{func(p *api.Plan) { p.Entries[3] = entry("TF C/00") }, api.ErrOrder},
		{func(p *api.Plan) { p.Entries[3] = entry("CF C/00 000000000") }, api.OK},
		{func(p *api.Plan) { p.Entries[5] = entry("TF D/00") }, api.ErrOrder},
		{func(p *api.Plan) { p.Entries[6].Leg.Fix = "X/00" }, api.ErrOrder},
		{func(p *api.Plan) { p.Entries[1].Leg.Fix = "A/00"; p.Entries[1].Section = 1 }, api.ErrExists},
		{func(p *api.Plan) { p.Entries[1] = entry("DF A/00") }, api.ErrExists},
		{func(p *api.Plan) { p.Entries[1] = entry("CF A/00 000000000") }, api.OK},
		{func(p *api.Plan) { p.Entries[7].Leg.Fix = "D/00" }, api.ErrExists},
		{func(p *api.Plan) { p.Entries[3].Leg.Fix = "B/00" }, api.OK},
		{func(p *api.Plan) { p.Entries[3].Section = 1 }, api.ErrOrder},
		{func(p *api.Plan) { p.Entries[7].Section = api.SecMissed }, api.OK},
		{func(p *api.Plan) { p.Active = 0 }, api.OK},
		{func(p *api.Plan) { p.Active = 7 }, api.OK},
		{func(p *api.Plan) { p.Active = 2 }, api.ErrRange},
		{func(p *api.Plan) { p.Active = 8 }, api.ErrRange},
		{func(p *api.Plan) { p.Active = -2 }, api.ErrRange},
		{func(p *api.Plan) { p.Entries = nil }, api.OK},
		{func(p *api.Plan) { p.Entries = nil; p.Active = 0 }, api.ErrRange},
	} {
		p := planOf(ordinary)
		c.change(&p)
		if e := Check(p); e != c.want {
			t.Errorf("case %d: %v, want %v", i, e, c.want)
		}
		s := Text(p)
		if (s == "") != (c.want != api.OK) {
			t.Errorf("case %d: Text %q", i, s)
		}
		if q, e := Parse(s); c.want == api.OK && (e != api.OK || !Same(p, q)) || c.want != api.OK && e != api.ErrForm {
			t.Errorf("case %d: Parse %v, %v", i, q, e)
		}
	}
	full := api.Plan{Active: -1, Entries: slices.Repeat(entries("IF A/00;TF B/00;GAP"), 20)}
	full.Entries[59] = entry("TF C/00")
	if e := Check(full); e != api.OK {
		t.Errorf("60 entries: %v", e)
	}
}

func database(t *testing.T) api.DB {
	t.Helper()
	db, diags := navdb.Compile("DATABASE WEST 2612 N46000000W120000000\nWAYPOINT A K1 N46000000W120000000\nWAYPOINT B K1 N46300000W120000000\nWAYPOINT C K1 N46300000W121000000\n")
	if len(diags) > 0 {
		t.Fatal(diags)
	}
	return db
}

// P21.2
func TestBind(t *testing.T) {
	db := database(t)
	legs := []api.Leg{entry("IF A/K1").Leg, entry("RF B/K1 @C/K1 R r5").Leg, entry("CA 000000000 5000").Leg}
	got, e := Bind(db, legs, api.SecArrival, "OLM7.BTG")
	b, _ := navdb.Point(db, "B/K1")
	c, _ := navdb.Point(db, "C/K1")
	want := []api.Entry{{Leg: legs[0], Section: 3, Via: "OLM7.BTG"}, {Leg: legs[1], End: b, Mid: c, Section: 3, Via: "OLM7.BTG"}, {Leg: legs[2], Section: 3, Via: "OLM7.BTG"}}
	if !slices.Equal(got, want) || e != api.OK || b == c {
		t.Errorf("Bind: %v, %v", got, e)
	}
	bad := entry("TF B/K1").Leg
	bad.Speed = -1
	for i, c := range []struct {
		legs []api.Leg
		s    api.Section
		via  string
		want api.Errno
	}{
		{legs, 0, "x", api.ErrType}, {legs, 6, "", api.ErrType}, {legs, 5, "x", api.ErrName}, {nil, 1, "A.B.C", api.ErrName}, {nil, 1, "", api.OK},
		{[]api.Leg{bad, entry("TF X/K1").Leg}, 1, "", api.ErrRange}, {[]api.Leg{entry("TF X/K1").Leg, bad}, 1, "", api.ErrNone}, {[]api.Leg{entry("RF A/K1 @X/K1 R r5").Leg}, 1, "", api.ErrNone},
	} {
		if got, e := Bind(db, c.legs, c.s, c.via); len(got) != 0 || e != c.want {
			t.Errorf("case %d: %v, %v", i, got, e)
		}
	}
	db.Fixes[0].Pos.Lat = 0
	if got, e := Bind(db, legs, 1, ""); len(got) != 0 || e != api.ErrRange {
		t.Errorf("a fix without a point: %v, %v", got, e)
	}
}

// P21.3
func TestJoin(t *testing.T) {
	for from, to := range map[string]string{
		"TF B/00;GAP;GAP;CA 000000000 5000;TF C/00;TF C/00":                  "IF B/00;GAP;IF C/00",
		"GAP;GAP;IF A/00;GAP":                                                "IF A/00",
		"CA 000000000 5000;GAP;TF B/00;TF C/00":                              "IF B/00;TF C/00",
		"CA 000000000 5000;CA 000000000 5000;HM A/00 R 000000000 d5;DF B/00": "DF B/00",
		"IF A/00;GAP;TF B/00;GAP;GAP;DF C/00":                                "IF A/00;GAP;IF B/00;GAP;DF C/00",
		"IF A/00;IF A/00;DF A/00;TF A/00;TF B/00":                            "IF A/00;TF B/00",
		"IF A/00;GAP;IF A/00;TF B/00":                                        "IF A/00;GAP;IF A/00;TF B/00",
		"IF A/00;CF A/00 000000000;TF B/00":                                  "IF A/00;CF A/00 000000000;TF B/00",
		"IF A/00;HM A/00 R 000000000 d5;TF A/00;TF B/00":                     "IF A/00;HM A/00 R 000000000 d5;TF B/00",
		"IF A/00;HM B/00 R 000000000 d5;TF C/00":                             "IF A/00;GAP;IF C/00",
		"IF A/00;FM A/00 000000000;CA 000000000 5000;RF B/00 @C/00 R r5":     "IF A/00;FM A/00 000000000;GAP;IF B/00",
		"IF A/00;IF B/00;TF C/00":                                            "IF A/00;GAP;IF B/00;TF C/00",
		"IF A/00;CA 000000000 5000;TF A/00":                                  "IF A/00;CA 000000000 5000;GAP;IF A/00",
		"AF A/00 @B/00 L r5 5000+ s250 n1;TF C/00":                           "IF A/00 5000+ s250 n1;TF C/00",
		"TF A/00 over 5000 s7;TF C/00":                                       "IF A/00 5000 s7;TF C/00",
		"CF A/00 000000000 over":                                             "CF A/00 000000000 over",
	} {
		l := entries(from)
		keep := slices.Clone(l)
		got := Join(l)
		if !slices.Equal(got, entries(to)) || !slices.Equal(l, keep) {
			t.Errorf("Join(%s) = %v", from, got)
		}
	}
	if len(Join(nil)) != 0 || len(Join(entries("GAP;CA 000000000 5000"))) != 0 {
		t.Errorf("Join of nothing")
	}
	// The starting form keeps End, Section and Via, and has no Mid.
	x := entry("RF A/00 @B/00 R r5")
	x.End, x.Mid, x.Via, x.Section = api.Point{X: 1}, api.Point{Y: 2}, "V1", api.SecArrival
	want := entry("IF A/00")
	want.End, want.Via, want.Section = api.Point{X: 1}, "V1", api.SecArrival
	if got := Join([]api.Entry{x}); !slices.Equal(got, []api.Entry{want}) {
		t.Errorf("the starting form: %v", got)
	}
	// Nothing is checked.
	odd := []api.Entry{{Leg: api.Leg{Type: 99}}, {Leg: api.Leg{Type: api.IF, Speed: -5}}, {Gap: true, Via: "junk"}, {Leg: api.Leg{Type: api.DF, Fix: "?"}}}
	if got := Join(odd); !slices.Equal(got, []api.Entry{odd[1], {Gap: true}, odd[3]}) {
		t.Errorf("odd entries: %v", got)
	}
}

// P21.4
func TestJoinTwice(t *testing.T) {
	words := []string{"IF A/00", "TF A/00", "TF B/00", "CF A/00 000000000", "DF A/00", "DF B/00 over", "RF B/00 @C/00 R r5", "AF A/00 @C/00 L r5", "CA 000000000 5000", "CD @C/00 000000000 d5", "CI 000000000", "CR @C/00 000000000 t000000001", "FA A/00 000000000 5000", "FC B/00 000000000 d5", "FM A/00 000000000", "HA A/00 R 000000000 d5 5000", "HF B/00 R 000000000 d5", "HM A/00 L 000000000 d5", "PI B/00 R 000000000 d5", "GAP", "GAP"}
	x := uint64(1)
	for range 20_000 {
		var l []api.Entry
		section := api.SecDeparture
		for range 9 {
			x = x*6364136223846793005 + 1442695040888963407
			e := entry(words[int(x>>33)%len(words)])
			if !e.Gap {
				section = min(api.SecMissed, section+api.Section(x>>60/13))
				e.Section = section
			}
			l = append(l, e)
		}
		once := Join(l)
		if twice := Join(once); !slices.Equal(once, twice) {
			t.Fatalf("%v: %v, then %v", l, once, twice)
		}
		if e := Check(api.Plan{Entries: once, Active: -1}); e != api.OK {
			t.Fatalf("%v: %v is not valid: %v", l, once, e)
		}
		p := api.Plan{Entries: l, Active: -1}
		if Check(p) == api.OK && !slices.Equal(l, once) {
			t.Fatalf("the valid entries %v become %v", l, once)
		}
	}
}

// P21.5
func TestFind(t *testing.T) {
	p := planOf(ordinary)
	if got := Fixes(p); !slices.Equal(got, []string{"A/00", "B/00", "C/00", "D/00", "D/00", "E/00"}) {
		t.Errorf("Fixes: %v", got)
	}
	p.Entries = append(p.Entries, entry("FA A/00 000000000 5000"), api.Entry{Gap: true, Leg: api.Leg{Type: api.IF, Fix: "A/00"}}, entry("IF A/00"))
	for _, c := range []struct {
		from int
		ref  string
		want int
	}{{0, "D/00", 5}, {5, "D/00", 5}, {6, "D/00", 6}, {7, "D/00", -1}, {-9, "A/00", 0}, {math.MinInt, "A/00", 0}, {1, "A/00", 10}, {11, "A/00", -1}, {math.MaxInt, "A/00", -1}, {0, "X/00", -1}, {0, "", -1}} {
		if got := Find(p, c.from, c.ref); got != c.want {
			t.Errorf("Find(%d, %s) = %d, want %d", c.from, c.ref, got, c.want)
		}
	}
	for i, change := range []func(q *api.Plan){func(q *api.Plan) { q.From = "" }, func(q *api.Plan) { q.To = "" }, func(q *api.Plan) { q.Active = 0 }, func(q *api.Plan) { q.Entries[3].End.X++ }, func(q *api.Plan) { q.Entries = q.Entries[1:] }} {
		q := planOf(ordinary)
		if !Same(q, planOf(ordinary)) {
			t.Errorf("Same of equal plans")
		}
		change(&q)
		if Same(q, planOf(ordinary)) {
			t.Errorf("Same, case %d", i)
		}
	}
	if !Same(api.Plan{}, api.Plan{Entries: []api.Entry{}}) {
		t.Errorf("nil and empty lists are equal")
	}
}

// P21.6, P21.7
func TestText(t *testing.T) {
	const text = "PLAN KSEA - 1\nE - 0,0 - IF SEA/K1\nE V23 -60000,12 - TF BTG/K1"
	p := api.Plan{From: "KSEA", Active: 1, Entries: entries("IF SEA/K1;TF BTG/K1")}
	p.Entries[1].End, p.Entries[1].Via = api.Point{X: -60_000, Y: 12}, "V23"
	if s := Text(p); s != text {
		t.Errorf("%q", s)
	}
	if q, e := Parse(text); !Same(p, q) || e != api.OK {
		t.Errorf("%v, %v", q, e)
	}
	p = planOf("CF A/00 000000000;RF B/00 @C/00 R r5;CA 000000000 5000;DF B/00;GAP;DF B/00")
	for i, s := range []api.Section{1, 2, 3, 4, 0, 5} {
		p.Entries[i].Section = s
	}
	p.Entries[1].Mid = api.Point{X: 3, Y: -4}
	want := "PLAN KSEA KPDX/RW28R -1\nD - 0,0 - CF A/00 000000000\nE - 0,0 3,-4 RF B/00 @C/00 R r5\nA - - - CA 000000000 5000\nP - 0,0 - DF B/00\nGAP\nM - 0,0 - DF B/00"
	if s := Text(p); s != want {
		t.Errorf("%q", s)
	}
	if q, e := Parse(want); !Same(p, q) || e != api.OK {
		t.Errorf("%v, %v", q, e)
	}
	if s := Text(api.Plan{Active: -1}); s != "PLAN - - -1" {
		t.Errorf("%q", s)
	}
	for _, s := range []string{"", "PLAN", "PLAN - -", "PLAN - - -1\n", "PLAN - - -1 ", "PLAN  - -1", "PLAN - - -2", "PLAN - - 0", "PLAN - - x", "PLAN - - 01", "plan - - -1", "PLAN - - -1\nGAP", strings.Replace(text, "- 1", "- +1", 1), strings.Replace(text, "E V23", "E ", 1), strings.Replace(text, "E V23", "X V23", 1), strings.Replace(text, "E V23", " V23", 1), strings.Replace(text, "E V23", "EA V23", 1), strings.Replace(text, "E V23", "D V23", 1), strings.Replace(text, "-60000,12", "-60000,012", 1), strings.Replace(text, "-60000,12", "-60000", 1), strings.Replace(text, "-60000,12", "-", 1), strings.Replace(text, "-60000,12", "-60000,12,1", 1), strings.Replace(text, "-60000,12", "2000001,0", 1), strings.Replace(text, " - TF", " 0,0 TF", 1), strings.Replace(text, "TF BTG", "TF  BTG", 1), strings.Replace(text, "\n", "\n\n", 1), strings.Replace(text, "KSEA", "ksea", 1), text + "\n", " " + text} {
		if q, e := Parse(s); e != api.ErrForm || !Same(q, api.Plan{}) {
			t.Errorf("Parse(%q) = %v, %v", s, q, e)
		}
	}
}
