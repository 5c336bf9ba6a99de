package navdb

import (
	"fmt"
	"reflect"
	"slices"
	"strings"
	"testing"

	"flightdeck/api"
	"flightdeck/leg"
	"flightdeck/plane"
)

const source = `DATABASE WEST 2612 N46000000W120000000
WAYPOINT A K1 N46000000W120000000
WAYPOINT B K1 N46300000W120000000
WAYPOINT C K1 N46300000W121000000
AIRPORT KPDX K1 N45300000W121000000 30
AIRPORT KSEA K1 N47000000W121000000 432.50
RUNWAY RW16L KSEA N47010000W121000000 432
VOR SEA K1 N47000000W121050000 130+45
AIRWAY V1
VIA A/K1 5000+ BOTH
VIA B/K1 - FORWARD
VIA C/K1
AIRWAY V2
VIA C/K1 - BOTH
VIA A/K1
DEPARTURE KSEA SUMMA2
PART RUNWAY RW16L
LEG CA 160000000 1000+
LEG DF A/K1 over
PART COMMON
LEG IF A/K1
LEG TF B/K1 5000:9000 s250
PART ENROUTE BTG
LEG IF B/K1
LEG RF C/K1 @SEA/K1 R r3
ARRIVAL KSEA OLM7
PART ENROUTE BTG
LEG IF C/K1
APPROACH KSEA I16L
PART COMMON
LEG IF C/K1
LEG TF RW16L/KSEA
PART MISSED
LEG CA 160000000 2000+
LEG DF A/K1
LEG HM A/K1 R 160000000 d5
`

func sample(t *testing.T) api.DB {
	t.Helper()
	db, diags := Compile(source)
	if len(diags) > 0 {
		t.Fatalf("%v", diags)
	}
	return db
}

// P18.2, P18.3: a source, its database and its text.
func TestSource(t *testing.T) {
	db := sample(t)
	if db.Header != (api.Header{Name: "WEST", Cycle: 2612, From: 9826, To: 9854, Origin: api.Pos{Lat: 46 * api.Degree, Lon: -120 * api.Degree}}) {
		t.Errorf("header %v", db.Header)
	}
	if len(db.Fixes) != 7 || len(db.Airways) != 2 || len(db.Procedures) != 3 || Check(db) != api.OK {
		t.Errorf("%d fixes, %d airways, %d procedures, %v", len(db.Fixes), len(db.Airways), len(db.Procedures), Check(db))
	}
	if db.Fixes[4] != (api.Fix{Ident: "KSEA", Region: "K1", Kind: api.Airport, Pos: api.Pos{Lat: 47 * api.Degree, Lon: -121 * api.Degree}, Elev: 43_250}) {
		t.Errorf("fix %v", db.Fixes[4])
	}
	l, _, _ := leg.Parse("RF C/K1 @SEA/K1 R r3")
	if p := db.Procedures[0]; p.Name != "SUMMA2" || p.Kind != api.Departure || len(p.Parts) != 3 || p.Parts[0].Name != "RW16L" || p.Parts[1].Name != "" || p.Parts[2].Kind != api.EnroutePart || p.Parts[2].Legs[1] != l {
		t.Errorf("procedure %v", p)
	}
	if p := db.Procedures[2]; p.Kind != api.Approach || p.Parts[1].Kind != api.MissedPart || p.Parts[1].Name != "" {
		t.Errorf("procedure %v", p)
	}
	if s, e := Text(db); s != source || e != api.OK {
		t.Errorf("Text: %v\n%s", e, s)
	}
	lines := strings.Split(strings.TrimSuffix(source, "\n"), "\n")
	// Whole elements behind the header may come in any order.
	mixed := slices.Concat(lines[:1], lines[28:], lines[12:15], lines[15:28], lines[7:8], lines[8:12], lines[1:7])
	other, diags := Compile("# so\n" + strings.ReplaceAll(strings.Join(mixed, "\n\n"), " ", "  "))
	if !reflect.DeepEqual(db, other) || len(diags) > 0 {
		t.Errorf("in another order: %v", diags)
	}
	const small = "DATABASE WEST 2612 N46000000W120000000\n"
	db, diags = Compile(small)
	if s, e := Text(db); s != small || e != api.OK || len(diags) > 0 || db.Header.From != 9826 || db.Header.To != 9854 {
		t.Errorf("the first example: %v, %v, %s", db, diags, s)
	}
}

// diagsOf compiles a text and compares the diagnostics, each written as "line:column:code".
func diagsOf(t *testing.T, src string, want ...string) {
	t.Helper()
	db, diags := Compile(src)
	var got []string
	for _, d := range diags {
		got = append(got, fmt.Sprintf("%d:%d:%d", d.Line, d.Column, int(d.Code)))
	}
	if !slices.Equal(got, want) || len(want) > 0 && !reflect.DeepEqual(db, api.DB{}) {
		t.Errorf("%q: %v, want %v", src, got, want)
	}
}

const head = "DATABASE WEST 2612 N46000000W120000000\n"

// P18.2: the first round.
func TestRoundOne(t *testing.T) {
	diagsOf(t, "", "1:1:9")
	diagsOf(t, "# nothing\n\n", "1:1:9")
	diagsOf(t, head+"NONSENSE\n\tX\nWAYPOINT A K1 \x7f", "3:1:4", "4:15:4")
	diagsOf(t, strings.Repeat("x", api.MaxSource+1), "1:1:3")
	_, diags := Compile(strings.Repeat("\t\n", 80))
	if len(diags) != 50 || diags[49].Line != 50 {
		t.Errorf("%d diagnostics", len(diags))
	}
}

// P18.2: the second round, the places of records.
func TestPlaces(t *testing.T) {
	diagsOf(t, "VIA A/K1", "1:1:9")
	diagsOf(t, "  NONSENSE", "1:3:4")
	diagsOf(t, "WAYPOINT A K1 N46000000W120000000\n"+head, "1:1:9", "2:1:9")
	diagsOf(t, "NONSENSE\n"+head, "1:1:4", "2:1:9")
	diagsOf(t, head+head, "2:1:9")
	diagsOf(t, "AIRWAY 1X\nVIA x\nVIA y\nLEG", "1:1:9", "4:1:9")
	diagsOf(t, "DEPARTURE 1\nPART COMMON x\nLEG x", "1:1:9", "2:13:4", "3:1:4")
	diagsOf(t, head+"VIA A/K1\nVIA A/K1\nAIRWAY V1\nVIA A/K1 - BOTH\nVIA B/K1\nNONSENSE\nVIA C/K1", "2:1:9", "3:1:9", "7:1:4", "8:1:9")
	diagsOf(t, head+"PART COMMON\nLEG IF A/K1\nLEG x", "2:1:9", "4:1:4")
	diagsOf(t, head+"DEPARTURE K X\nLEG IF A/K1\nPART COMMON\nLEG IF A/K1\nPART ENROUTE X\nAIRWAY\nPART COMMON\nLEG IF A/K1", "3:1:9", "7:7:4", "8:1:9")
	diagsOf(t, head+"DEPARTURE K X\nPART COMMON\nNONSENSE\nLEG IF A/K1\nPART COMMON", "4:1:4", "5:1:9", "6:1:9")
	diagsOf(t, head+"DEPARTURE K X\nVIA x\nPART COMMON", "3:1:9", "4:1:9")
	_, diags := Compile(head + strings.Repeat("LEG\n", 80))
	if len(diags) != 50 || diags[49] != (api.Diag{Line: 51, Column: 1, Code: api.ErrOrder}) {
		t.Errorf("%d diagnostics", len(diags))
	}
}

// P18.2: the second round, the fields of records.
func TestFields(t *testing.T) {
	diagsOf(t, "DATABASE WEST 2614 N46000000W120000000", "1:15:6")
	diagsOf(t, "DATABASE WEST 261 N46000000W120000000", "1:15:4")
	diagsOf(t, "DATABASE WEST x612 N46000000W120000000", "1:15:4")
	diagsOf(t, "DATABASE WEST", "1:14:4")
	diagsOf(t, "DATABASE", "1:9:4")
	diagsOf(t, "DATABASE WESTWESTW 2612 N46000000W120000000", "1:10:5")
	diagsOf(t, "DATABASE WEST 2612", "1:19:4")
	diagsOf(t, "DATABASE WEST 2612 N46000000", "1:20:4")
	diagsOf(t, "DATABASE WEST 2612 N91000000W120000000", "1:20:2")
	diagsOf(t, "DATABASE WEST 2612 N46000000W120000000 X", "1:40:4")
	diagsOf(t, head+"WAYPOINT 1 K1 N46000000W120000000\nVOR A K1 N46000000W120000000", "2:10:5", "3:29:4")
	diagsOf(t, head+"AIRWAY V1\nVIA A/K1 - BOTH\nVIA B\nAIRWAY V2\nAIRWAY V3 X\nVIA C", "4:5:5", "5:1:1", "6:11:4")
	diagsOf(t, head+"DEPARTURE\nARRIVAL KSEATAC X\nAPPROACH KSEA 1X\nDEPARTURE K ABCDEFGHI\nDEPARTURE K X Y", "2:10:4", "3:9:5", "4:15:5", "5:13:5", "6:15:4")
	diagsOf(t, head+"DEPARTURE K X\nPART\nPART OTHER\nPART RUNWAY\nPART RUNWAY 16L\nPART COMMON X\nPART ENROUTE ABCDEFGHI\nPART MISSED X\nPART ENROUTE X Y", "3:5:4", "4:6:4", "5:12:4", "6:13:5", "7:13:4", "8:14:5", "9:13:4", "10:16:4")
	diagsOf(t, head+"DEPARTURE K X\nPART COMMON\n  LEG\n LEG TF\nLEG CA 160000000\nLEG IF  A/K1  over", "4:3:4", "5:2:4", "6:1:2", "7:1:1")
	diagsOf(t, head+"DEPARTURE 1K X\nPART COMMON\nLEG x", "2:11:5", "4:1:4")
}

const airports = "AIRPORT KSEA K1 N47000000W121000000 0\nRUNWAY RW16L KSEA N47000000W121000000 0\n"

// P18.2: the third round.
func TestRoundThree(t *testing.T) {
	diagsOf(t, "DATABASE WEST 2612 N71000000W120000000", "1:1:1")
	diagsOf(t, "DATABASE WEST 2612 N71000000W120000000\nWAYPOINT A K1 N71000000W120000000", "1:1:1", "2:1:1")
	diagsOf(t, head+"AIRWAY V1\nVIA A/K1 5000+ BOTH\nVIA B/K1", "3:1:6", "4:1:6")
	a := "WAYPOINT A K1 N46000000W120000000\n"
	diagsOf(t, head+a+" VOR A K1 N46000000W120000000 5\nWAYPOINT A K2 N46000000W120000000\n"+a, "3:2:7", "5:1:7")
	diagsOf(t, head+"WAYPOINT A K1 N56000000W120000000\nWAYPOINT B K1 S46000000W120000000", "2:1:2", "3:1:2")
	diagsOf(t, head+airports+"AIRPORT KSEA K2 N47000000W121000000 0", "4:1:7")
	diagsOf(t, head+"AIRPORT KSEA K1 N57000000W121000000 0\nAIRPORT KSEA K2 N47000000W121000000 0\nAIRPORT KSEA K1 N47000000W121000000 0", "2:1:2", "3:1:7", "4:1:7")
	diagsOf(t, head+"RUNWAY RW16L KSEA N47000000W121000000 0\nWAYPOINT KSEA K1 N47000000W121000000", "2:1:6")
	diagsOf(t, head+"RUNWAY RW16L KSEA N47000000W121000000 0\nAIRPORT KSEA K1 N47000000W121000000 0")
	v := "AIRWAY V1\nVIA A/K1 - BOTH\nVIA KSEA/K1\n"
	diagsOf(t, head+v+v+a+airports, "5:1:7")
	d := "DEPARTURE KSEA X\nPART COMMON\nLEG IF A/K1\n"
	diagsOf(t, head+d+d+a+airports, "5:1:7")
	diagsOf(t, head+d+"ARRIVAL KSEA X\nPART COMMON\nLEG IF A/K1\n"+a+airports)
	diagsOf(t, head+d+a, "2:1:6")
	diagsOf(t, head+"DEPARTURE KSEA X\n"+"DEPARTURE KSEA X\n"+airports, "2:1:6", "3:1:6")
	diagsOf(t, head+"DEPARTURE KSEA X\nPART COMMON\nLEG IF A/K1\nPART RUNWAY RW16L\nLEG IF A/K1\n"+a+airports, "2:1:9")
	diagsOf(t, head+"DEPARTURE KSEA X\nPART RUNWAY RW16L\nLEG IF A/K1\nPART RUNWAY RW34R\nLEG IF A/K1\n"+a+airports, "5:1:6")
	diagsOf(t, head+"ARRIVAL KSEA X\nPART RUNWAY A\nLEG IF A/K1\n"+a+airports+"WAYPOINT A KS N46000000W120000000", "3:1:6")
	diagsOf(t, head+"DEPARTURE KSEA X\nPART COMMON\nLEG IF A/K1\nLEG TF B/K1\nLEG RF A/K1 @C/K1 R r5\nLEG CA 000000000 5000\n"+a+airports, "5:1:6", "6:1:6")
}

// P18.2: the counts.
func TestCounts(t *testing.T) {
	var b strings.Builder
	for i := range 402 {
		fmt.Fprintf(&b, "WAYPOINT F%03d K1 N46000000W120000000\n", i)
	}
	diagsOf(t, head+b.String()+"WAYPOINT F000 K1 N46000000W120000000\n", "402:1:3", "403:1:3", "404:1:3")
	fixes := "WAYPOINT A K1 N46000000W120000000\nWAYPOINT B K1 N46000000W120000000\n"
	b.Reset()
	for i := range 61 {
		fmt.Fprintf(&b, "AIRWAY V%d\nVIA A/K1 - BOTH\nVIA B/K1\n", i)
	}
	diagsOf(t, head+fixes+b.String(), "184:1:3")
	b.Reset()
	for i := range 61 {
		fmt.Fprintf(&b, "ARRIVAL KSEA P%d\nPART COMMON\nLEG IF A/K1\n", i)
	}
	b.WriteString("ARRIVAL KSEA P1\n")
	diagsOf(t, head+fixes+airports+b.String(), "186:1:3", "189:1:3")
}

// P18.1
func TestCheck(t *testing.T) {
	for i, c := range []struct {
		change func(db *api.DB)
		want   api.Errno
	}{
		{func(db *api.DB) {}, api.OK},
		{func(db *api.DB) { db.Header.Name = ""; db.Header.Cycle = -1 }, api.ErrName},
		{func(db *api.DB) { db.Header.Name = "ABCDEFGHI" }, api.ErrName},
		{func(db *api.DB) { db.Header.Cycle = -1; db.Header.From = 0 }, api.ErrRange},
		{func(db *api.DB) { db.Header.Cycle = 2614 }, api.ErrNone},
		{func(db *api.DB) { db.Header.Cycle = 2611; db.Header.Origin.Lat = api.Quarter }, api.ErrCycle},
		{func(db *api.DB) { db.Header.From++ }, api.ErrCycle},
		{func(db *api.DB) { db.Header.To++ }, api.ErrCycle},
		{func(db *api.DB) { db.Header.Origin.Lat = 71 * api.Degree; db.Fixes = make([]api.Fix, 401) }, api.ErrArg},
		{func(db *api.DB) { db.Fixes = make([]api.Fix, 401) }, api.ErrLimit},
		{func(db *api.DB) { db.Airways = make([]api.Airway, 61); db.Fixes[0].Kind = 0 }, api.ErrLimit},
		{func(db *api.DB) { db.Procedures = make([]api.Procedure, 61) }, api.ErrLimit},
		{func(db *api.DB) { db.Fixes = make([]api.Fix, 400) }, api.ErrType},
		{func(db *api.DB) { db.Fixes[1].Region = "1" }, api.ErrName},
		{func(db *api.DB) { db.Fixes[1] = db.Fixes[0] }, api.ErrExists},
		{func(db *api.DB) { db.Fixes[0], db.Fixes[1] = db.Fixes[1], db.Fixes[0] }, api.ErrOrder},
		{func(db *api.DB) { db.Fixes[1].Pos.Lat = 0 }, api.ErrRange},
		{func(db *api.DB) { db.Fixes[4].Ident = "KPDX"; db.Fixes[4].Region = "K2" }, api.ErrExists},
		{func(db *api.DB) { db.Fixes[5].Region = "KSE" }, api.ErrNone},
		{func(db *api.DB) { db.Fixes[4].Kind = api.Waypoint; db.Fixes[4].Elev = 0 }, api.ErrNone},
		{func(db *api.DB) { db.Airways[0].Name = "" }, api.ErrName},
		{func(db *api.DB) { db.Airways[0].Points[1].Dir = 5 }, api.ErrType},
		{func(db *api.DB) { db.Airways[0].Name = "V2"; db.Airways[1].Points[0].Ref = "X/K1" }, api.ErrExists},
		{func(db *api.DB) { db.Airways[0].Name = "V3"; db.Airways[1].Points[0].Ref = "X/K1" }, api.ErrOrder},
		{func(db *api.DB) { db.Airways[1].Points[0].Ref = "X/K1" }, api.ErrNone},
		{func(db *api.DB) { db.Procedures[0].Name = "" }, api.ErrName},
		{func(db *api.DB) { db.Procedures[0].Parts = nil }, api.ErrNone},
		{func(db *api.DB) { db.Procedures[1] = db.Procedures[0] }, api.ErrExists},
		{func(db *api.DB) { db.Procedures[0], db.Procedures[1] = db.Procedures[1], db.Procedures[0] }, api.ErrOrder},
		{func(db *api.DB) { db.Procedures[2].Airport = "KSEB" }, api.ErrNone},
		{func(db *api.DB) { db.Procedures[0].Parts[0].Name = "RW16R" }, api.ErrNone},
		{func(db *api.DB) { db.Procedures[0].Parts[2].Legs[1].Center = "X/K1" }, api.ErrNone},
		{func(db *api.DB) { db.Procedures[2].Parts[0].Legs[1].Fix = "X/K1" }, api.ErrNone},
	} {
		db := sample(t)
		c.change(&db)
		if e := Check(db); e != c.want {
			t.Errorf("case %d: %v, want %v", i, e, c.want)
		}
		if s, e := Text(db); e != c.want || c.want != api.OK && s != "" {
			t.Errorf("case %d: Text %q, %v", i, s, e)
		}
	}
}

// P18.4
func TestLookUp(t *testing.T) {
	db := sample(t)
	if f, e := Fix(db, "KSEA/K1"); f != db.Fixes[4] || e != api.OK {
		t.Errorf("Fix: %v, %v", f, e)
	}
	if f, e := Fix(db, "KSEA"); f != (api.Fix{}) || e != api.ErrNone {
		t.Errorf("Fix: %v, %v", f, e)
	}
	want, _ := plane.To(db.Header.Origin, db.Fixes[2].Pos)
	if p, e := Point(db, "C/K1"); p != want || e != api.OK || p == (api.Point{}) {
		t.Errorf("Point: %v, %v", p, e)
	}
	if p, e := Point(db, "D/K1"); p != (api.Point{}) || e != api.ErrNone {
		t.Errorf("Point: %v, %v", p, e)
	}
	far := db
	far.Fixes = append([]api.Fix{{Ident: "C", Region: "K1", Pos: api.Pos{Lon: -1}}}, db.Fixes...)
	if p, e := Point(far, "C/K1"); p != (api.Point{}) || e != api.ErrRange {
		t.Errorf("Point of the first fix: %v, %v", p, e)
	}
	a, e := Airway(db, "V1")
	if !reflect.DeepEqual(a, db.Airways[0]) || e != api.OK {
		t.Errorf("Airway: %v, %v", a, e)
	}
	a.Points[0].Ref = "X"
	if a, e := Airway(db, "V9"); !reflect.DeepEqual(a, api.Airway{}) || e != api.ErrNone {
		t.Errorf("Airway: %v, %v", a, e)
	}
	p, e := Procedure(db, "KSEA", api.Approach, "I16L")
	if !reflect.DeepEqual(p, db.Procedures[2]) || e != api.OK {
		t.Errorf("Procedure: %v, %v", p, e)
	}
	p.Parts[0].Legs[0].Fix = "X"
	if p, e := Procedure(db, "KSEA", api.Arrival, "I16L"); !reflect.DeepEqual(p, api.Procedure{}) || e != api.ErrNone {
		t.Errorf("Procedure: %v, %v", p, e)
	}
	if !reflect.DeepEqual(db, sample(t)) {
		t.Errorf("results share memory with the database")
	}
}

// P18.5
func TestLists(t *testing.T) {
	db := sample(t)
	db.Procedures = append(db.Procedures, api.Procedure{Airport: "KSEA", Name: "ABC", Kind: api.Approach}, api.Procedure{Airport: "KPDX", Name: "XYZ", Kind: api.Approach})
	db.Fixes = append(db.Fixes, api.Fix{Ident: "RW01", Region: "KSEA", Kind: api.Runway}, api.Fix{Ident: "RW02", Region: "KSEA", Kind: api.VOR})
	if got := Procedures(db, "KSEA", api.Approach); !slices.Equal(got, []string{"I16L", "ABC"}) {
		t.Errorf("Procedures: %v", got)
	}
	if got := Runways(db, "KSEA"); !slices.Equal(got, []string{"RW16L", "RW01"}) || len(Runways(db, "KPDX")) != 0 || len(Procedures(db, "KPDX", api.Arrival)) != 0 {
		t.Errorf("Runways: %v", got)
	}
	for ref, want := range map[string][]string{
		"A/K1":       {"AIRWAY V1", "AIRWAY V2", "DEPARTURE KSEA SUMMA2", "APPROACH KSEA I16L"},
		"C/K1":       {"AIRWAY V1", "AIRWAY V2", "DEPARTURE KSEA SUMMA2", "ARRIVAL KSEA OLM7", "APPROACH KSEA I16L"},
		"SEA/K1":     {"DEPARTURE KSEA SUMMA2"},
		"RW16L/KSEA": {"APPROACH KSEA I16L"},
		"":           nil,
		"X/K1":       nil,
	} {
		if got := Users(db, ref); !slices.Equal(got, want) {
			t.Errorf("Users of %q: %v", ref, got)
		}
	}
	db.Procedures[0].Kind = 9
	if got := Users(db, "SEA/K1"); !slices.Equal(got, []string{"NONE KSEA SUMMA2"}) {
		t.Errorf("Users: %v", got)
	}
}
