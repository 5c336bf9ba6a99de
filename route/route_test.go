package route

import (
	"fmt"
	"slices"
	"strings"
	"testing"

	"flightdeck/api"
	"flightdeck/leg"
	"flightdeck/navdb"
	"flightdeck/plan"
)

const source = `DATABASE WEST 2612 N46000000W120000000
WAYPOINT A K1 N46000000W120000000
WAYPOINT B K1 N46100000W120000000
WAYPOINT C K1 N46200000W120000000
WAYPOINT C K2 N46000000W121000000
WAYPOINT D K1 N46300000W120300000
WAYPOINT V23 K1 N46300000W120400000
WAYPOINT E K1 N46300000W120200000
WAYPOINT E K2 N46300000W120200000
WAYPOINT CTR K1 N46150000W120000000
AIRPORT KSEA K1 N47000000W121000000 432.50
AIRPORT KPDX K1 N45300000W121000000 30
RUNWAY RW16L KSEA N47010000W121000000 432
RUNWAY RW28R KPDX N45310000W121000000 30
AIRWAY V23
VIA A/K1 5000+ BOTH
VIA B/K1 - FORWARD
VIA C/K1
AIRWAY V24
VIA C/K1 - BOTH
VIA D/K1 - BOTH
VIA E/K2
DEPARTURE KSEA SUMMA2
PART RUNWAY RW16L
LEG CA 160000000 1000+
LEG DF A/K1
PART ENROUTE BTG
LEG IF A/K1
LEG TF B/K1
ARRIVAL KPDX OLM7
PART ENROUTE BTG
LEG IF D/K1
LEG TF C/K1
PART RUNWAY RW28R
LEG IF C/K1
LEG TF B/K1
DEPARTURE KSEA FREE
PART COMMON
LEG IF A/K1
LEG CA 160000000 1000+
ARRIVAL KSEA FM
PART COMMON
LEG IF A/K1
LEG FM A/K1 000000000
APPROACH KPDX I28R
PART COMMON
LEG IF B/K1
LEG TF RW28R/KPDX over
PART MISSED
LEG CA 280000000 2000+
LEG DF A/K1
`

func database(t *testing.T) api.DB {
	t.Helper()
	db, diags := navdb.Compile(source)
	if len(diags) > 0 {
		t.Fatal(diags)
	}
	return db
}

func item(k api.ItemKind, name, trans string) api.Item {
	return api.Item{Kind: k, Name: name, Trans: trans}
}

// P22.1, P22.2
func TestParse(t *testing.T) {
	for s, want := range map[string][]api.Item{
		"KSEA/RW16L D=SUMMA2.BTG V23 BTG/K1 KPDX": {item(api.OriginItem, "KSEA", "RW16L"), item(api.DepartureItem, "SUMMA2", "BTG"), item(api.NameItem, "V23", ""), item(api.FixItem, "BTG/K1", ""), item(api.DestinationItem, "KPDX", "")},
		"KSEA KPDX/RW28R":                         {item(api.OriginItem, "KSEA", ""), item(api.DestinationItem, "KPDX", "RW28R")},
		"K D=A DCT A=B.C P=D.E K":                 {item(api.OriginItem, "K", ""), item(api.DepartureItem, "A", ""), item(api.DirectItem, "", ""), item(api.ArrivalItem, "B", "C"), item(api.ApproachItem, "D", "E"), item(api.DestinationItem, "K", "")},
		"K DCT ABCDEFGH DCT A=B K":                {item(api.OriginItem, "K", ""), item(api.DirectItem, "", ""), item(api.NameItem, "ABCDEFGH", ""), item(api.DirectItem, "", ""), item(api.ArrivalItem, "B", ""), item(api.DestinationItem, "K", "")},
		"DCT DCT A":                               {item(api.OriginItem, "DCT", ""), item(api.DirectItem, "", ""), item(api.DestinationItem, "A", "")},
		"DCT DCT DCT":                             {item(api.OriginItem, "DCT", ""), item(api.DirectItem, "", ""), item(api.DestinationItem, "DCT", "")},
		"DCT DCT":                                 {item(api.OriginItem, "DCT", ""), item(api.DestinationItem, "DCT", "")},
		"DCT/DCT DCT X DCT DCT/DCT":               {item(api.OriginItem, "DCT", "DCT"), item(api.DirectItem, "", ""), item(api.NameItem, "X", ""), item(api.DirectItem, "", ""), item(api.DestinationItem, "DCT", "DCT")},
		"K A/00 P=I K":                            {item(api.OriginItem, "K", ""), item(api.FixItem, "A/00", ""), item(api.ApproachItem, "I", ""), item(api.DestinationItem, "K", "")},
	} {
		got, i, e := Parse(s)
		if !slices.Equal(got, want) || i != 0 || e != api.OK {
			t.Errorf("Parse(%q) = %v, %d, %v", s, got, i, e)
		}
		if got := Text(want); got != s {
			t.Errorf("Text(%v) = %q", want, got)
		}
		for k := range want {
			for _, change := range []func(x *api.Item){func(x *api.Item) { x.Kind = 9 }, func(x *api.Item) { x.Kind = 0 }, func(x *api.Item) { x.Trans = "9" }, func(x *api.Item) { x.Name = "x" }} {
				l := slices.Clone(want)
				change(&l[k])
				if got := Text(l); got != "" {
					t.Errorf("Text(%v) = %q", l, got)
				}
			}
		}
	}
	if Text(nil) != "" || Text([]api.Item{item(api.OriginItem, "K", "")}) != "" || Text([]api.Item{item(api.OriginItem, "K A", ""), item(api.DestinationItem, "K", "")}) != "" {
		t.Errorf("Text of no route")
	}
	long := "K " + strings.Repeat("A/00 ", 122) + "K"
	if l, i, e := Parse(long); len(l) != 124 || i != 0 || e != api.OK {
		t.Errorf("124 words: %d, %d, %v", len(l), i, e)
	}
	for s, want := range map[string]struct {
		i int
		e api.Errno
	}{
		"": {0, api.ErrForm}, "KSEA": {1, api.ErrForm}, "D=A": {0, api.ErrForm}, "KSEA ": {1, api.ErrForm}, " KSEA": {0, api.ErrForm}, "KSEA  KPDX": {1, api.ErrForm}, "KSEATAC KPDX": {0, api.ErrForm}, "KSEA/RW16LXX KPDX": {0, api.ErrForm}, "KSEA KPDX/": {1, api.ErrForm}, "KSEA A/K1/K2 KPDX": {1, api.ErrForm}, "KSEA ABCDEFGHI KPDX": {1, api.ErrForm}, "KSEA a KPDX": {1, api.ErrForm}, "KSEA D= KPDX": {1, api.ErrForm}, "KSEA D=A. KPDX": {1, api.ErrForm}, "KSEA D=A.B.C KPDX": {1, api.ErrForm}, "KSEA D=ABCDEFGHI KPDX": {1, api.ErrForm}, "KSEA X=A KPDX": {1, api.ErrForm}, "KSEA X A=1 KPDX": {2, api.ErrForm},
		"KSEA D=A BTG D=B KPDX": {3, api.ErrOrder}, "K P=A X K": {1, api.ErrOrder}, "K A=A X K": {1, api.ErrOrder}, "K A=A P=B X K": {1, api.ErrOrder}, "K A=A X P=B K": {1, api.ErrOrder}, "K A=A A=B K": {1, api.ErrOrder}, "K P=A P=B K": {1, api.ErrOrder}, "K DCT DCT K": {2, api.ErrOrder}, "K DCT DCT x K": {2, api.ErrOrder}, "DCT": {1, api.ErrForm}, "DCT DCT DCT A": {2, api.ErrOrder}, "DCT DCT DCT DCT": {2, api.ErrOrder}, "K A=B P= K": {2, api.ErrForm}, "K A=A D=B K": {1, api.ErrOrder},
		"x" + long + " A": {124, api.ErrLimit},
	} {
		if got, i, e := Parse(s); len(got) != 0 || i != want.i || e != want.e {
			t.Errorf("Parse(%q) = %v, %d, %v", s, got, i, e)
		}
	}
}

// P22.3
func TestPlace(t *testing.T) {
	db := database(t)
	for place, want := range map[string]string{"KSEA": "KSEA/K1", "KSEA/RW16L": "RW16L/KSEA", "KPDX/RW28R": "RW28R/KPDX"} {
		if got, e := Place(db, place); got != want || e != api.OK {
			t.Errorf("Place(%s) = %s, %v", place, got, e)
		}
	}
	for place, want := range map[string]api.Errno{"": api.ErrForm, "KSEA/": api.ErrForm, "KSEATAC": api.ErrForm, "KSEA/RW16L/X": api.ErrForm, "A": api.ErrNone, "KXXX": api.ErrNone, "KSEA/RW28R": api.ErrNone, "KXXX/RW16L": api.ErrNone} {
		if got, e := Place(db, place); got != "" || e != want {
			t.Errorf("Place(%q) = %s, %v", place, got, e)
		}
	}
	db.Fixes = append([]api.Fix{{Ident: "KSEA", Region: "ZZ", Kind: api.VOR}, {Ident: "KSEA", Region: "Z1", Kind: api.Airport}}, db.Fixes...)
	if got, e := Place(db, "KSEA"); got != "KSEA/Z1" || e != api.OK {
		t.Errorf("the first airport: %s, %v", got, e)
	}
}

// show writes the entries of a plan as "section via leg".
func show(p api.Plan) string {
	var l []string
	for _, x := range p.Entries {
		if x.Gap {
			l = append(l, "GAP")
			continue
		}
		l = append(l, strings.TrimSpace(fmt.Sprintf("%c %s:%s", " DEAPM"[x.Section], x.Via, leg.Text(x.Leg))))
	}
	return strings.Join(l, "; ")
}

// P22.4
func TestExpand(t *testing.T) {
	db := database(t)
	for s, want := range map[string]string{
		"KSEA A/K1 V23 C KSEA":               "E :IF KSEA/K1; E :TF A/K1; E V23:TF B/K1 5000+; E V23:TF C/K1; E :TF KSEA/K1",
		"KSEA KPDX":                          "E :IF KSEA/K1; E :TF KPDX/K1",
		"KSEA DCT A DCT KPDX/RW28R":          "E :IF KSEA/K1; E :TF A/K1; E :TF RW28R/KPDX",
		"KSEA/RW16L D=SUMMA2.BTG V23 C KPDX": "D SUMMA2.BTG:IF RW16L/KSEA; D SUMMA2.BTG:CA 160000000 1000+; D SUMMA2.BTG:DF A/K1; D SUMMA2.BTG:TF B/K1; E V23:TF C/K1; E :TF KPDX/K1",
		"KSEA/RW16L D=SUMMA2 V23 B KPDX":     "D SUMMA2:IF RW16L/KSEA; D SUMMA2:CA 160000000 1000+; D SUMMA2:DF A/K1; E V23:TF B/K1 5000+; E :TF KPDX/K1",
		"KSEA D=FREE B KPDX":                 "D FREE:IF KSEA/K1; GAP; D FREE:IF A/K1; D FREE:CA 160000000 1000+; GAP; E :IF B/K1; E :TF KPDX/K1",
		"KSEA B/K1 V24 E/K2 KPDX":            "",
		"KSEA C/K1 V24 E/K2 KPDX":            "E :IF KSEA/K1; E :TF C/K1; E V24:TF D/K1; E V24:TF E/K2; E :TF KPDX/K1",
		"KSEA E/K2 V24 C KPDX":               "E :IF KSEA/K1; E :TF E/K2; E V24:TF D/K1; E V24:TF C/K1; E :TF KPDX/K1",
		"KSEA D E D KPDX":                    "E :IF KSEA/K1; E :TF D/K1; E :TF E/K1; E :TF D/K1; E :TF KPDX/K1",
		"KSEA C KPDX":                        "E :IF KSEA/K1; E :TF C/K1; E :TF KPDX/K1",
		"KPDX C KPDX":                        "E :IF KPDX/K1; E :TF C/K2; E :TF KPDX/K1",
		"KSEA C/K2 C/K2 KPDX":                "E :IF KSEA/K1; E :TF C/K2; E :TF KPDX/K1",
		"KSEA D A=OLM7.BTG KPDX/RW28R":       "E :IF KSEA/K1; E :TF D/K1; A OLM7.BTG:TF C/K1; A OLM7.BTG:TF B/K1; A :TF RW28R/KPDX",
		"KSEA A=OLM7 P=I28R KPDX/RW28R":      "E :IF KSEA/K1; GAP; A OLM7:IF C/K1; A OLM7:TF B/K1; P I28R:TF RW28R/KPDX over; M I28R:CA 280000000 2000+; M I28R:DF A/K1",
		"KSEA A=OLM7 P=I28R KPDX":            "",
		"KSEA V23/K1 KPDX":                   "E :IF KSEA/K1; E :TF V23/K1; E :TF KPDX/K1",
		"KSEA B/K1 P=I28R KPDX":              "E :IF KSEA/K1; E :TF B/K1; P I28R:TF RW28R/KPDX over; P :TF KPDX/K1; M I28R:CA 280000000 2000+; M I28R:DF A/K1",
		"KSEA V23 C KPDX":                    "",
		"A/K1 B/K1":                          "",
	} {
		p, i, e := Expand(db, s)
		if want == "" {
			if e == api.OK {
				t.Errorf("Expand(%s) = %s", s, show(p))
			}
			continue
		}
		if show(p) != want || i != 0 || e != api.OK || p.Active != -1 || plan.Check(p) != api.OK {
			t.Errorf("Expand(%s) = %s, %d, %v", s, show(p), i, e)
		}
		words := strings.Split(s, " ")
		if p.From != words[0] || p.To != words[len(words)-1] {
			t.Errorf("Expand(%s): from %s to %s", s, p.From, p.To)
		}
		for _, x := range p.Entries {
			if want, _ := navdb.Point(db, x.Leg.Fix); x.Leg.Fix != "" && x.End != want {
				t.Errorf("Expand(%s): %v is not at %v", s, x, want)
			}
		}
	}
}

// P22.4
func TestExpandErrors(t *testing.T) {
	db := database(t)
	far := database(t)
	for i := range far.Fixes {
		if far.Fixes[i].Ident == "B" {
			far.Fixes[i].Pos.Lat = 0
		}
	}
	for _, c := range []struct {
		db api.DB
		s  string
		i  int
		e  api.Errno
	}{
		{db, "KSEA", 1, api.ErrForm},
		{db, "KXXX NOWHERE KPDX", 0, api.ErrNone},
		{db, "KSEA/RW28R KPDX", 0, api.ErrNone},
		{db, "KSEA NOWHERE KXXX", 1, api.ErrNone},
		{db, "KSEA NO/K1 KPDX", 1, api.ErrNone},
		{db, "KSEA KXXX", 1, api.ErrNone},
		{db, "KSEA KPDX/RW16L", 1, api.ErrNone},
		{db, "KSEA D=NONE A KPDX", 1, api.ErrNone},
		{db, "KSEA D=SUMMA2 A KPDX", 1, api.ErrNone},
		{db, "KSEA/RW16L D=SUMMA2.ABC A KPDX", 1, api.ErrNone},
		{db, "KPDX D=SUMMA2 A KPDX", 1, api.ErrNone},
		{db, "KSEA A/K1 V23 KPDX", 2, api.ErrOrder},
		{db, "KSEA A/K1 V23 V24 KPDX", 2, api.ErrOrder},
		{db, "KSEA A/K1 V23 DCT KPDX", 2, api.ErrOrder},
		{db, "KSEA A/K1 V23 A=OLM7 KPDX", 2, api.ErrOrder},
		{db, "KSEA A/K1 V23 E KPDX", 3, api.ErrNone},
		{db, "KSEA D=FREE V23 E KPDX", 3, api.ErrNone},
		{db, "KSEA D=FREE V23 C KPDX", 2, api.ErrOrder},
		{db, "KSEA A/K1 V23 E/K1 KPDX", 3, api.ErrNone},
		{db, "KSEA C/K1 V23 A/K1 KPDX", 3, api.ErrOrder},
		{db, "KSEA A/K1 V23 A/K1 KPDX", 3, api.ErrArg},
		{db, "KSEA D/K1 V23 A/K1 KPDX", 3, api.ErrNone},
		{db, "KSEA A=NONE KPDX", 1, api.ErrNone},
		{db, "KSEA A=OLM7 KPDX", 1, api.ErrNone},
		{db, "KPDX A=OLM7 KSEA/RW16L", 1, api.ErrNone},
		{db, "KSEA P=NONE KPDX", 1, api.ErrNone},
		{db, "KSEA P=I28R.X KPDX", 1, api.ErrNone},
		{far, "KSEA B KPDX", 1, api.ErrNone},
		{far, "KSEA B/K1 KPDX", 1, api.ErrRange},
		{far, "KSEA A/K1 V23 C/K1 KPDX", 2, api.ErrRange},
		{far, "KSEA P=I28R KPDX", 1, api.ErrRange},
		{db, "KSEA " + strings.Repeat("A/K1 B/K1 ", 30) + "KPDX", 62, api.ErrLimit},
		{api.DB{}, "KSEA KPDX", 0, api.ErrNone},
	} {
		if p, i, e := Expand(c.db, c.s); !plan.Same(p, api.Plan{}) || i != c.i || e != c.e {
			t.Errorf("Expand(%s) = %s, %d, %v, want %d, %v", c.s, show(p), i, e, c.i, c.e)
		}
	}
	missed := database(t)
	for i, p := range missed.Procedures {
		if p.Kind == api.Approach {
			missed.Procedures[i].Parts[1].Legs[1].Fix = "NO/K1"
		}
	}
	if _, i, e := Expand(missed, "KSEA B/K1 P=I28R KPDX"); i != 2 || e != api.ErrNone {
		t.Errorf("a missed approach without its fix: %d, %v", i, e)
	}
	// "A FM leg leads nowhere": the fix behind it stands behind a gap, and no airway begins there.
	if _, i, e := Expand(db, "KPDX A=FM KSEA"); i != 0 || e != api.OK {
		t.Errorf("%d, %v", i, e)
	}
}

// P22.4, P22.6: an airport that is named like the word DCT is a place at both ends and nowhere else.
func TestExpandPlaceNamedLikeDirect(t *testing.T) {
	db, diags := navdb.Compile(strings.Replace(source, "RUNWAY RW16L", "AIRPORT DCT K1 N46400000W120000000 30\nRUNWAY RW16L", 1))
	if len(diags) > 0 {
		t.Fatal(diags)
	}
	for s, want := range map[string]string{
		"DCT DCT KPDX":      "E :IF DCT/K1; E :TF KPDX/K1",
		"DCT DCT B DCT DCT": "E :IF DCT/K1; E :TF B/K1; E :TF DCT/K1",
	} {
		p, i, e := Expand(db, s)
		if show(p) != want || i != 0 || e != api.OK {
			t.Errorf("Expand(%s) = %s, %d, %v", s, show(p), i, e)
		}
		if again, _, e := Expand(db, Print(p)); e != api.OK || !plan.Same(p, again) {
			t.Errorf("%s is printed as %s: %v", s, Print(p), e)
		}
	}
	if p, i, e := Expand(db, "DCT DCT DCT KPDX"); !plan.Same(p, api.Plan{}) || i != 2 || e != api.ErrOrder {
		t.Errorf("%s, %d, %v", show(p), i, e)
	}
}

// P22.5
func TestPrint(t *testing.T) {
	db := database(t)
	for s, want := range map[string]string{
		"KSEA A/K1 V23 C KSEA":               "KSEA A/K1 V23 B/K1 V23 C/K1 KSEA/K1 KSEA",
		"KSEA/RW16L D=SUMMA2.BTG V23 C KPDX": "KSEA/RW16L D=SUMMA2.BTG V23 C/K1 KPDX/K1 KPDX",
		"KSEA A=OLM7 P=I28R KPDX/RW28R":      "KSEA A=OLM7 P=I28R KPDX/RW28R",
		"KSEA D=FREE B KPDX":                 "KSEA D=FREE B/K1 KPDX/K1 KPDX",
		"KSEA KPDX":                          "KSEA KPDX/K1 KPDX",
	} {
		p, _, e := Expand(db, s)
		if got := Print(p); got != want || e != api.OK {
			t.Errorf("Print of %s: %s", s, got)
		}
		for _, change := range []func(p *api.Plan){func(p *api.Plan) { p.From = "" }, func(p *api.Plan) { p.To = "" }, func(p *api.Plan) { p.Active = 99 }} {
			q := p
			change(&q)
			if got := Print(q); got != "" {
				t.Errorf("Print of %s, changed: %s", s, got)
			}
		}
	}
	p, _, _ := Expand(db, "KSEA A/K1 V23 C KSEA")
	p.Entries[1].Section, p.Entries[0].Section = api.SecDeparture, api.SecDeparture
	p.Entries[4].Section, p.Entries[4].Via = api.SecMissed, "I28R"
	if got := Print(p); got != "KSEA V23 B/K1 V23 C/K1 P=I28R KSEA" {
		t.Errorf("%s", got)
	}
}

// P22.6
func TestExpandPrint(t *testing.T) {
	db := database(t)
	words := []string{"A", "B/K1", "C", "C/K2", "D/K1", "E", "E/K2", "V23", "V24", "DCT", "V23/K1", "KSEA/K1"}
	x := uint64(3)
	next := func(n int) int {
		x = x*6364136223846793005 + 1442695040888963407
		return int(x>>33) % n
	}
	good := 0
	for range 20_000 {
		s := []string{"KSEA", "KSEA/RW16L", "KPDX"}[next(3)]
		s += []string{"", " D=FREE", " D=SUMMA2", " D=SUMMA2.BTG"}[next(4)]
		for range next(7) {
			s += " " + words[next(len(words))]
		}
		s += []string{"", " A=OLM7", " A=OLM7.BTG"}[next(3)]
		s += []string{"", " P=I28R"}[next(2)]
		s += []string{" KPDX", " KPDX/RW28R", " KSEA"}[next(3)]
		p, _, e := Expand(db, s)
		if e != api.OK {
			continue
		}
		good++
		again, i, e := Expand(db, Print(p))
		if e != api.OK || !plan.Same(p, again) {
			t.Fatalf("%s is printed as %s: %d, %v\n%s\n%s", s, Print(p), i, e, show(p), show(again))
		}
	}
	if good < 1000 {
		t.Errorf("only %d routes", good)
	}
}
