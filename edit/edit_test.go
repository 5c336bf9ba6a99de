package edit

import (
	"fmt"
	"math"
	"slices"
	"strings"
	"testing"

	"flightdeck/api"
	"flightdeck/leg"
	"flightdeck/navdb"
	"flightdeck/plan"
)

// samples has an edit of every operation, by its text.
func samples() map[string]api.Edit {
	return map[string]api.Edit{
		"INSERT 5 SEA/K1":          {Op: api.InsertFix, At: 5, Ref: "SEA/K1"},
		"DELETE 60":                {Op: api.DeleteEntry, At: 60},
		"DIRECT 0":                 {Op: api.DirectTo},
		"ALT 3 5000+":              {Op: api.SetAltitude, At: 3, Alt: api.Window{Lo: 500_000, Hi: api.MaxAlt}},
		"ALT 3 -":                  {Op: api.SetAltitude, At: 3, Alt: api.Window{Lo: api.MinAlt, Hi: api.MaxAlt}},
		"ALT 3 0":                  {Op: api.SetAltitude, At: 3},
		"SPD 3 250":                {Op: api.SetSpeed, At: 3, Speed: 250},
		"SPD 3 0":                  {Op: api.SetSpeed, At: 3},
		"RNP 3 0+1800":             {Op: api.SetRNP, At: 3, Dist: 1800},
		"RNP 3 0":                  {Op: api.SetRNP, At: 3},
		"HOLD 2 160000000 5 R":     {Op: api.InsertHold, At: 2, Course: 160 * api.Degree, Dist: 30_000, Turn: api.Right},
		"HOLD 2 000000000 0+1 L":   {Op: api.InsertHold, At: 2, Dist: 1, Turn: api.Left},
		"AIRWAY 2 BTG/K1 V23":      {Op: api.JoinAirway, At: 2, Ref: "BTG/K1", Name: "V23"},
		"DEPARTURE SUMMA2 RW16L -": {Op: api.LoadDeparture, Name: "SUMMA2", Runway: "RW16L"},
		"ARRIVAL OLM7 - BTG":       {Op: api.LoadArrival, Name: "OLM7", Trans: "BTG"},
		"APPROACH I16L -":          {Op: api.LoadApproach, Name: "I16L"},
		"DIVERT 4 KPDX/RW28R":      {Op: api.Divert, At: 4, Name: "KPDX/RW28R"},
		"DIVERT 4 KPDX":            {Op: api.Divert, At: 4, Name: "KPDX"},
	}
}

// P23.1, P23.2
func TestTexts(t *testing.T) {
	for s, e := range samples() {
		if f := Check(e); f != api.OK {
			t.Errorf("Check(%s): %v", s, f)
		}
		if got := Text(e); got != s {
			t.Errorf("Text(%s) = %q", s, got)
		}
		if got, f := Parse(s); got != e || f != api.OK {
			t.Errorf("Parse(%s) = %v, %v", s, got, f)
		}
		for _, bad := range []string{s + " ", " " + s, s + " X", strings.Replace(s, " ", "  ", 1), s[:strings.LastIndex(s, " ")], strings.ToLower(s), s + "x"} {
			if got, f := Parse(bad); got != (api.Edit{}) || f != api.ErrForm {
				t.Errorf("Parse(%q) = %v, %v", bad, got, f)
			}
		}
	}
	for _, s := range []string{"", " ", "INSERT", "INSERT 5", "INSERT 05 A/K1", "INSERT -1 A/K1", "INSERT 61 A/K1", "INSERT x A/K1", "INSERT 5 A", "ALT 3 5000:5000", "ALT 3 60001", "SPD 3 0250", "SPD 3 1001", "SPD 3 -1", "RNP 3 20+1", "RNP 3 1+0", "HOLD 2 360000000 5 R", "HOLD 2 160000000 0 R", "HOLD 2 160000000 334 R", "HOLD 2 160000000 5 X", "HOLD 2 160000000 5 LR", "HOLD 2 160000000 5 ", "AIRWAY 2 V23 BTG/K1", "AIRWAY 2 BTG/K1 V23V23V23", "DEPARTURE - - -", "DEPARTURE A RW16LXX -", "DEPARTURE A -", "ARRIVAL A - 1", "APPROACH A - -", "DIVERT 4 -", "DIVERT 4 KPDX/", "DIVERT 4 KPDXXXX", "NONE 1"} {
		if got, f := Parse(s); got != (api.Edit{}) || f != api.ErrForm {
			t.Errorf("Parse(%q) = %v, %v", s, got, f)
		}
	}
}

// P23.1: every field, used and not used.
func TestCheck(t *testing.T) {
	used := map[api.Op]string{1: "At Ref", 2: "At", 3: "At", 4: "At Alt", 5: "At Speed", 6: "At Dist", 7: "At Course Dist Turn", 8: "At Ref Name", 9: "Name Runway Trans", 10: "Name Runway Trans", 11: "Name Trans", 12: "At Name"}
	type bad struct {
		field  string
		change func(e *api.Edit)
		want   api.Errno
	}
	bads := []bad{
		{"At", func(e *api.Edit) { e.At = -1 }, api.ErrRange}, {"At", func(e *api.Edit) { e.At = 61 }, api.ErrRange}, {"At", func(e *api.Edit) { e.At = math.MaxInt }, api.ErrRange},
		{"Ref", func(e *api.Edit) { e.Ref = "A" }, api.ErrName}, {"Ref", func(e *api.Edit) { e.Ref = "A/" }, api.ErrName},
		{"Name", func(e *api.Edit) { e.Name = "1" }, api.ErrName}, {"Name", func(e *api.Edit) { e.Name = "ABCDEFGHI" }, api.ErrName}, {"Name", func(e *api.Edit) { e.Name = "A/B/C" }, api.ErrName},
		{"Runway", func(e *api.Edit) { e.Runway = "ABCDEFG" }, api.ErrName}, {"Runway", func(e *api.Edit) { e.Runway = "-" }, api.ErrName},
		{"Trans", func(e *api.Edit) { e.Trans = "ABCDEFGHI" }, api.ErrName}, {"Trans", func(e *api.Edit) { e.Trans = "a" }, api.ErrName},
		{"Alt", func(e *api.Edit) { e.Alt = api.Window{Lo: 6, Hi: 5} }, api.ErrRange}, {"Alt", func(e *api.Edit) { e.Alt.Lo = api.MinAlt - 1 }, api.ErrRange}, {"Alt", func(e *api.Edit) { e.Alt.Hi = api.MaxAlt + 1 }, api.ErrRange},
		{"Speed", func(e *api.Edit) { e.Speed = -1 }, api.ErrRange}, {"Speed", func(e *api.Edit) { e.Speed = 1001 }, api.ErrRange},
		{"Course", func(e *api.Edit) { e.Course = -1 }, api.ErrRange}, {"Course", func(e *api.Edit) { e.Course = api.Circle }, api.ErrRange},
		{"Dist", func(e *api.Edit) { e.Dist = -1 }, api.ErrRange}, {"Dist", func(e *api.Edit) { e.Dist = api.MaxXY + 1 }, api.ErrRange},
		{"Turn", func(e *api.Edit) { e.Turn = 3 }, api.ErrArg},
	}
	for _, e := range samples() {
		for i, b := range bads {
			want := b.want
			if !strings.Contains(used[e.Op], b.field) {
				want = api.ErrArg
			}
			x := e
			b.change(&x)
			if f := Check(x); f != want || Text(x) != "" {
				t.Errorf("%s, case %d: %v, want %v", Text(e), i, f, want)
			}
			// The first wrong field in the order of the chapter decides.
			for j := i + 1; j < len(bads); j++ {
				if bads[j].field == b.field {
					continue
				}
				y := x
				bads[j].change(&y)
				if f := Check(y); f != want {
					t.Errorf("%s, cases %d and %d: %v, want %v", Text(e), i, j, f, want)
				}
			}
		}
	}
	for _, c := range []struct {
		e    api.Edit
		want api.Errno
	}{
		{api.Edit{}, api.ErrType}, {api.Edit{Op: 13, At: -1}, api.ErrType},
		{api.Edit{Op: api.SetRNP, Dist: 120_001}, api.ErrRange}, {api.Edit{Op: api.SetRNP, Dist: 120_000}, api.OK},
		{api.Edit{Op: api.InsertHold, Turn: 1}, api.ErrRange}, {api.Edit{Op: api.InsertHold, Turn: 1, Dist: api.MaxXY}, api.OK}, {api.Edit{Op: api.InsertHold, Dist: 5}, api.ErrArg},
		{api.Edit{Op: api.JoinAirway, Ref: "A/00"}, api.ErrName}, {api.Edit{Op: api.LoadApproach}, api.ErrName}, {api.Edit{Op: api.Divert}, api.ErrName}, {api.Edit{Op: api.Divert, Name: "ABCDEFG"}, api.ErrName}, {api.Edit{Op: api.Divert, Name: "ABCDEF/ABCDEF"}, api.OK}, {api.Edit{Op: api.LoadArrival, Name: "ABCDEFGH", Runway: "ABCDEF", Trans: "ABCDEFGH"}, api.OK}, {api.Edit{Op: api.JoinAirway, Ref: "A/00", Name: "A/B"}, api.ErrName},
	} {
		if f := Check(c.e); f != c.want {
			t.Errorf("Check(%v) = %v, want %v", c.e, f, c.want)
		}
	}
}

const source = `DATABASE WEST 2612 N46000000W120000000
WAYPOINT A K1 N46000000W120000000
WAYPOINT B K1 N46100000W120000000
WAYPOINT C K1 N46200000W120000000
WAYPOINT D K1 N46300000W120300000
WAYPOINT E K1 N46300000W120200000
WAYPOINT F K1 N46300000W120100000
AIRPORT KSEA K1 N47000000W121000000 432.50
AIRPORT KPDX K1 N45300000W121000000 30
RUNWAY RW16L KSEA N47010000W121000000 432
RUNWAY RW34R KSEA N47010000W121000000 432
RUNWAY RW28R KPDX N45310000W121000000 30
AIRWAY V23
VIA B/K1 5000+ BOTH
VIA E/K1 - FORWARD
VIA F/K1
DEPARTURE KSEA SUMMA2
PART RUNWAY RW16L
LEG CA 160000000 1000+
LEG DF A/K1
PART ENROUTE BTG
LEG IF A/K1
LEG TF B/K1
DEPARTURE KSEA OPEN
PART COMMON
LEG IF A/K1
LEG FM A/K1 000000000
ARRIVAL KPDX OLM7
PART ENROUTE BTG
LEG IF D/K1
LEG TF C/K1
PART RUNWAY RW28R
LEG IF C/K1
LEG TF B/K1
APPROACH KPDX I28R
PART COMMON
LEG IF B/K1
LEG TF RW28R/KPDX over
PART MISSED
LEG CA 280000000 2000+
LEG DF A/K1
`

func database(t *testing.T) api.DB {
	t.Helper()
	db, diags := navdb.Compile(source)
	if len(diags) > 0 {
		t.Fatal(diags)
	}
	return db
}

// planOf makes a plan of entries "section via leg", separated by semicolons; "E" and no via if only the leg is given.
func planOf(t *testing.T, db api.DB, active int, text string) api.Plan {
	t.Helper()
	p := api.Plan{From: "KSEA", To: "KPDX", Active: active}
	if text == "" {
		return p
	}
	for _, s := range strings.Split(text, "; ") {
		if s == "GAP" {
			p.Entries = append(p.Entries, api.Entry{Gap: true})
			continue
		}
		section, via := byte('E'), ""
		if head, rest, ok := strings.Cut(s, ":"); ok && len(head) > 0 && !strings.Contains(head, " ") {
			section, via, s = head[0], head[1:], rest
		}
		l, _, e := leg.Parse(s)
		if e != api.OK {
			t.Fatal(s)
		}
		x, e := plan.Bind(db, []api.Leg{l}, api.Section(strings.IndexByte("DEAPM", section)+1), via)
		if e != api.OK {
			t.Fatal(s, e)
		}
		p.Entries = append(p.Entries, x...)
	}
	if e := plan.Check(p); e != api.OK {
		t.Fatal(text, e)
	}
	return p
}

// show writes the entries of a plan as planOf reads them.
func show(p api.Plan) string {
	var l []string
	for _, x := range p.Entries {
		switch {
		case x.Gap:
			l = append(l, "GAP")
		case x.Section == api.SecEnroute && x.Via == "":
			l = append(l, leg.Text(x.Leg))
		default:
			l = append(l, fmt.Sprintf("%c%s:%s", " DEAPM"[x.Section], x.Via, leg.Text(x.Leg)))
		}
	}
	return strings.Join(l, "; ")
}

const four = "IF A/K1; TF B/K1; TF C/K1; TF D/K1"

// P23.3, P23.4: what edits make of plans; "from" and "to" of the result are told where they change.
func TestApply(t *testing.T) {
	db := database(t)
	for i, c := range []struct {
		active     int
		text, edit string
		want       string
		from, to   string
	}{
		{1, four, "DELETE 2", "IF A/K1; TF B/K1; GAP; IF D/K1", "", ""},
		{1, four, "DELETE 3", "IF A/K1; TF B/K1; TF C/K1", "", ""},
		{-1, four, "DELETE 0", "IF B/K1; TF C/K1; TF D/K1", "", ""},
		{1, "IF A/K1; TF B/K1; GAP; IF D/K1 5000 s250 n1; TF C/K1", "DELETE 2", "IF A/K1; TF B/K1; DF D/K1 5000 s250 n1; TF C/K1", "", ""},
		{1, "IF A/K1; TF B/K1; GAP; CF D/K1 000000000", "DELETE 2", "IF A/K1; TF B/K1; CF D/K1 000000000", "", ""},
		{1, "IF A/K1; TF B/K1; GAP; IF D/K1", "DELETE 3", "IF A/K1; TF B/K1", "", ""},
		{1, four, "DIRECT 3", "DF D/K1", "", ""},
		{1, four, "DIRECT 1", "DF B/K1; TF C/K1; TF D/K1", "", ""},
		{-1, "IF A/K1; EV23:TF B/K1 over 5000 s250 n1; TF C/K1", "DIRECT 1", "EV23:DF B/K1 over 5000 s250 n1; TF C/K1", "", ""},
		{1, "IF A/K1; TF B/K1; EV23:HM B/K1 R 000000000 d5 5000 s200 n1; TF C/K1", "DIRECT 2", "EV23:DF B/K1; EV23:HM B/K1 R 000000000 d5 5000 s200 n1; TF C/K1", "", ""},
		{1, "IF A/K1; TF B/K1; PI B/K1 R 000000000 d5; TF C/K1", "DIRECT 2", "DF B/K1; PI B/K1 R 000000000 d5; TF C/K1", "", ""},
		{0, "IF A/K1; RF B/K1 @C/K1 R r5 5000; TF D/K1", "DIRECT 1", "DF B/K1 5000; TF D/K1", "", ""},
		{1, four, "INSERT 2 D/K1", "IF A/K1; TF B/K1; DF D/K1", "", ""},
		{1, four, "INSERT 2 C/K1", "IF A/K1; TF B/K1; DF C/K1; TF D/K1", "", ""},
		{1, four, "INSERT 2 A/K1", "IF A/K1; TF B/K1; DF A/K1; GAP; IF C/K1; TF D/K1", "", ""},
		{1, four, "INSERT 4 E/K1", "IF A/K1; TF B/K1; TF C/K1; TF D/K1; DF E/K1", "", ""},
		{-1, "", "INSERT 0 E/K1", "DF E/K1", "", ""},
		{1, "DX:IF A/K1; DX:TF B/K1; GAP; A:IF D/K1", "INSERT 2 C/K1", "DX:IF A/K1; DX:TF B/K1; A:DF C/K1; GAP; A:IF D/K1", "", ""},
		{1, "DX:IF A/K1; DX:TF B/K1", "INSERT 2 C/K1", "DX:IF A/K1; DX:TF B/K1; D:DF C/K1", "", ""},
		{1, four, "ALT 1 5000+", "IF A/K1; TF B/K1 5000+; TF C/K1; TF D/K1", "", ""},
		{1, four, "SPD 3 250", "IF A/K1; TF B/K1; TF C/K1; TF D/K1 s250", "", ""},
		{-1, "IF A/K1 s100 n1; TF B/K1", "RNP 0 0+1800", "IF A/K1 s100 n0+1800; TF B/K1", "", ""},
		{1, "IF A/K1; CA 000000000 5000; DF B/K1", "SPD 1 250", "IF A/K1; CA 000000000 5000 s250; DF B/K1", "", ""},
		{1, four, "HOLD 1 160000000 5 R", "IF A/K1; TF B/K1; HM B/K1 R 160000000 d5; TF C/K1; TF D/K1", "", ""},
		{1, "IF A/K1; AX:RF B/K1 @C/K1 R r5; AX:TF D/K1", "HOLD 1 160000000 5 L", "IF A/K1; AX:RF B/K1 @C/K1 R r5; A:HM B/K1 L 160000000 d5; AX:TF D/K1", "", ""},
		{1, four, "AIRWAY 1 E/K1 V23", "IF A/K1; TF B/K1; EV23:TF E/K1 5000+; GAP; IF C/K1; TF D/K1", "", ""},
		{1, "IF A/K1; TF B/K1; TF C/K1; TF F/K1; TF D/K1", "AIRWAY 1 F/K1 V23", "IF A/K1; TF B/K1; EV23:TF E/K1 5000+; EV23:TF F/K1; TF D/K1", "", ""},
		{1, "IF A/K1; AX:TF B/K1", "AIRWAY 1 E/K1 V23", "IF A/K1; AX:TF B/K1; AV23:TF E/K1 5000+", "", ""},
		{-1, "IF KSEA/K1; TF A/K1; TF C/K1", "DEPARTURE SUMMA2 RW16L -", "DSUMMA2:IF RW16L/KSEA; DSUMMA2:CA 160000000 1000+; DSUMMA2:DF A/K1; TF C/K1", "KSEA/RW16L", ""},
		{-1, "IF KSEA/K1; TF D/K1; TF C/K1", "DEPARTURE SUMMA2 RW16L BTG", "DSUMMA2.BTG:IF RW16L/KSEA; DSUMMA2.BTG:CA 160000000 1000+; DSUMMA2.BTG:DF A/K1; DSUMMA2.BTG:TF B/K1; GAP; IF D/K1; TF C/K1", "KSEA/RW16L", ""},
		{-1, "DX:IF KSEA/K1; DX:TF B/K1; TF A/K1; TF C/K1; TF A/K1", "DEPARTURE SUMMA2 RW16L -", "DSUMMA2:IF RW16L/KSEA; DSUMMA2:CA 160000000 1000+; DSUMMA2:DF A/K1; TF C/K1; TF A/K1", "KSEA/RW16L", ""},
		{-1, "DF A/K1; TF C/K1", "DEPARTURE SUMMA2 RW16L -", "DSUMMA2:IF RW16L/KSEA; DSUMMA2:CA 160000000 1000+; DSUMMA2:DF A/K1; TF C/K1", "KSEA/RW16L", ""},
		{-1, "IF KSEA/K1; TF A/K1; TF C/K1", "DEPARTURE OPEN - -", "DOPEN:IF KSEA/K1; GAP; DOPEN:IF A/K1; DOPEN:FM A/K1 000000000; GAP; IF A/K1; TF C/K1", "", ""},
		{-1, "", "DEPARTURE OPEN RW34R -", "DOPEN:IF RW34R/KSEA; GAP; DOPEN:IF A/K1; DOPEN:FM A/K1 000000000", "KSEA/RW34R", ""},
		{1, "IF A/K1; TF D/K1; TF KPDX/K1", "ARRIVAL OLM7 RW28R BTG", "IF A/K1; TF D/K1; AOLM7.BTG:TF C/K1; AOLM7.BTG:TF B/K1; A:TF RW28R/KPDX", "", "KPDX/RW28R"},
		{1, "IF A/K1; TF E/K1; TF KPDX/K1", "ARRIVAL OLM7 RW28R -", "IF A/K1; TF E/K1; GAP; AOLM7:IF C/K1; AOLM7:TF B/K1; A:TF RW28R/KPDX", "", "KPDX/RW28R"},
		{2, "IF A/K1; TF E/K1; TF KPDX/K1", "ARRIVAL OLM7 RW28R -", "IF A/K1; TF E/K1; TF KPDX/K1; GAP; AOLM7:IF C/K1; AOLM7:TF B/K1; A:TF RW28R/KPDX", "", "KPDX/RW28R"},
		{1, "IF A/K1; TF E/K1; EX:TF KPDX/K1", "ARRIVAL OLM7 RW28R -", "IF A/K1; TF E/K1; EX:TF KPDX/K1; GAP; AOLM7:IF C/K1; AOLM7:TF B/K1; A:TF RW28R/KPDX", "", "KPDX/RW28R"},
		{1, "IF A/K1; TF C/K1; TF D/K1; TF C/K1; TF KPDX/K1", "ARRIVAL OLM7 RW28R -", "IF A/K1; TF C/K1; AOLM7:TF B/K1; A:TF RW28R/KPDX", "", "KPDX/RW28R"},
		{2, "IF A/K1; TF C/K1; TF D/K1; TF C/K1; TF KPDX/K1", "ARRIVAL OLM7 RW28R -", "IF A/K1; TF C/K1; TF D/K1; TF C/K1; AOLM7:TF B/K1; A:TF RW28R/KPDX", "", "KPDX/RW28R"},
		{0, "IF A/K1; TF E/K1; AX:TF F/K1; PY:TF KPDX/K1", "ARRIVAL OLM7 RW28R -", "IF A/K1; TF E/K1; GAP; AOLM7:IF C/K1; AOLM7:TF B/K1; A:TF RW28R/KPDX", "", "KPDX/RW28R"},
		{1, "IF A/K1; TF B/K1; TF KPDX/K1", "APPROACH I28R -", "IF A/K1; TF B/K1; PI28R:TF RW28R/KPDX over; P:TF KPDX/K1; MI28R:CA 280000000 2000+; MI28R:DF A/K1", "", ""},
		{2, "IF A/K1; TF B/K1; AX:TF C/K1; PY:TF KPDX/K1; MY:CA 000000000 5000", "APPROACH I28R -", "IF A/K1; TF B/K1; AX:TF C/K1; GAP; PI28R:IF B/K1; PI28R:TF RW28R/KPDX over; P:TF KPDX/K1; MI28R:CA 280000000 2000+; MI28R:DF A/K1", "", ""},
		{-1, "", "APPROACH I28R -", "PI28R:IF B/K1; PI28R:TF RW28R/KPDX over; P:TF KPDX/K1; MI28R:CA 280000000 2000+; MI28R:DF A/K1", "", ""},
		{1, four, "DIVERT 1 KSEA", "IF A/K1; TF B/K1; TF KSEA/K1", "", "KSEA"},
		{1, "IF A/K1; TF B/K1; AX:TF C/K1; MX:TF D/K1", "DIVERT 2 KPDX/RW28R", "IF A/K1; TF B/K1; AX:TF C/K1; A:TF RW28R/KPDX", "", "KPDX/RW28R"},
	} {
		p := planOf(t, db, c.active, c.text)
		keep := slices.Clone(p.Entries)
		e, f := Parse(c.edit)
		if f != api.OK {
			t.Fatal(c.edit)
		}
		q, f := Apply(db, p, e)
		wantActive := c.active
		if e.Op == api.DirectTo {
			wantActive = 0
		}
		if show(q) != c.want || f != api.OK || q.Active != wantActive || plan.Check(q) != api.OK {
			t.Errorf("case %d: %s: %s (active %d), %v", i, c.edit, show(q), q.Active, f)
		}
		from, to := c.from, c.to
		if from == "" {
			from = "KSEA"
		}
		if to == "" {
			to = "KPDX"
		}
		if q.From != from || q.To != to || !slices.Equal(p.Entries, keep) {
			t.Errorf("case %d: from %s to %s", i, q.From, q.To)
		}
		// The points are those of the fixes.
		for _, x := range q.Entries {
			end, _ := navdb.Point(db, x.Leg.Fix)
			if x.Leg.Fix != "" && x.End != end {
				t.Errorf("case %d: %v ends at %v", i, x.Leg, x.End)
			}
		}
	}
}

// P23.3: the errors in their order.
func TestApplyErrors(t *testing.T) {
	db := database(t)
	far := database(t)
	for i := range far.Fixes {
		if far.Fixes[i].Ident == "E" || far.Fixes[i].Region == "KPDX" || far.Fixes[i].Ident == "KSEA" {
			far.Fixes[i].Pos.Lat = 0
		}
	}
	const gaps = "IF A/K1; TF B/K1; GAP; IF D/K1; CA 000000000 5000"
	const arr = "IF A/K1; TF B/K1; AX:TF C/K1; PX:TF D/K1"
	for i, c := range []struct {
		db     api.DB
		active int
		text   string
		edit   string
		want   api.Errno
	}{
		{db, 1, four, "INSERT 5 E/K1", api.ErrNone}, {db, 1, four, "INSERT 1 NO/K1", api.ErrState}, {db, 1, four, "INSERT 2 NO/K1", api.ErrNone}, {far, 1, four, "INSERT 2 E/K1", api.ErrRange},
		{db, 1, four, "DELETE 4", api.ErrNone}, {db, 1, four, "DELETE 1", api.ErrState}, {db, 1, four, "DELETE 0", api.ErrState}, {db, 0, four, "DELETE 0", api.ErrState},
		{db, 1, four, "DIRECT 4", api.ErrNone}, {db, 1, four, "DIRECT 0", api.ErrState}, {db, 1, gaps, "DIRECT 2", api.ErrType}, {db, 1, gaps, "DIRECT 4", api.ErrType},
		{db, 1, four, "ALT 4 5000", api.ErrNone}, {db, 1, four, "ALT 0 5000", api.ErrState}, {db, 1, gaps, "SPD 2 5", api.ErrType}, {db, 3, gaps, "RNP 2 5", api.ErrState}, {db, 1, gaps, "ALT 4 -", api.ErrRange},
		{db, 1, four, "HOLD 4 000000000 5 R", api.ErrNone}, {db, 1, four, "HOLD 0 000000000 5 R", api.ErrState}, {db, 1, gaps, "HOLD 2 000000000 5 R", api.ErrType}, {db, 1, gaps, "HOLD 4 000000000 5 R", api.ErrType}, {db, 1, "IF A/K1; HM A/K1 R 000000000 d5; TF B/K1", "HOLD 1 000000000 5 R", api.ErrType},
		{db, 1, four, "AIRWAY 4 E/K1 V23", api.ErrNone}, {db, 1, four, "AIRWAY 0 E/K1 V23", api.ErrState}, {db, 1, gaps, "AIRWAY 2 E/K1 V23", api.ErrType}, {db, 1, gaps, "AIRWAY 4 E/K1 V23", api.ErrType}, {db, 1, four, "AIRWAY 1 E/K1 V99", api.ErrNone}, {db, 1, four, "AIRWAY 2 E/K1 V23", api.ErrNone}, {db, 1, four, "AIRWAY 1 B/K1 V23", api.ErrArg}, {db, 0, "IF F/K1", "AIRWAY 0 B/K1 V23", api.ErrOrder}, {far, 1, four, "AIRWAY 1 E/K1 V23", api.ErrRange},
		{db, 1, four, "DEPARTURE SUMMA2 RW16L -", api.ErrState}, {db, -1, four, "DEPARTURE NONE RW16L -", api.ErrNone}, {db, -1, four, "DEPARTURE SUMMA2 - -", api.ErrNone}, {db, -1, four, "DEPARTURE SUMMA2 RW34R -", api.ErrNone}, {db, -1, four, "DEPARTURE OPEN RW01 -", api.ErrNone}, {far, -1, four, "DEPARTURE OPEN - -", api.ErrRange},
		{db, 2, arr, "ARRIVAL OLM7 RW28R -", api.ErrState}, {db, 3, arr, "ARRIVAL OLM7 RW28R -", api.ErrState}, {db, 3, arr, "APPROACH I28R -", api.ErrState}, {db, 1, four, "ARRIVAL NONE RW28R -", api.ErrNone}, {db, 1, four, "ARRIVAL OLM7 - -", api.ErrNone}, {db, 1, four, "ARRIVAL OLM7 RW28R ABC", api.ErrNone}, {far, 1, four, "ARRIVAL OLM7 RW28R -", api.ErrRange}, {db, 1, four, "APPROACH NONE -", api.ErrNone}, {far, 1, four, "APPROACH I28R -", api.ErrRange},
		{db, 1, four, "DIVERT 4 KPDX", api.ErrNone}, {db, 1, four, "DIVERT 0 KPDX", api.ErrState}, {db, 1, gaps, "DIVERT 2 KPDX", api.ErrType}, {db, 1, gaps, "DIVERT 4 KPDX", api.ErrType}, {db, 1, four, "DIVERT 1 KXXX", api.ErrNone}, {far, 1, four, "DIVERT 1 KSEA", api.ErrRange},
	} {
		p := planOf(t, db, c.active, c.text)
		e, _ := Parse(c.edit)
		q, f := Apply(c.db, p, e)
		if !plan.Same(q, api.Plan{}) || f != c.want {
			t.Errorf("case %d: %s: %s, %v, want %v", i, c.edit, show(q), f, c.want)
		}
	}
	p := planOf(t, db, 1, four)
	if _, f := Apply(db, p, api.Edit{}); f != api.ErrType {
		t.Errorf("an edit that is not valid: %v", f)
	}
	p.Active = 9
	if _, f := Apply(db, p, api.Edit{}); f != api.ErrRange {
		t.Errorf("a plan that is not valid: %v", f)
	}
	p = planOf(t, db, -1, four)
	p.From, p.To = "", ""
	for _, s := range []string{"DEPARTURE SUMMA2 RW16L -", "ARRIVAL OLM7 RW28R -", "APPROACH I28R -"} {
		e, _ := Parse(s)
		if _, f := Apply(db, p, e); f != api.ErrNone {
			t.Errorf("%s without a place: %v", s, f)
		}
	}
	full := planOf(t, db, -1, strings.TrimSuffix(strings.Repeat("IF A/K1; TF B/K1; GAP; ", 20), "GAP; ")+"TF C/K1")
	if _, f := Apply(db, full, api.Edit{Op: api.InsertFix, At: 1, Ref: "D/K1"}); f != api.ErrLimit {
		t.Errorf("too many entries: %v", f)
	}
}

// P23.4: edits at random keep plans valid, and what is flown already.
func TestApplyKeeps(t *testing.T) {
	db := database(t)
	edits := []string{"INSERT %d A/K1", "INSERT %d E/K1", "DELETE %d", "DIRECT %d", "ALT %d 5000+", "SPD %d 250", "RNP %d 1", "HOLD %d 000000000 5 L", "AIRWAY %d F/K1 V23", "DIVERT %d KSEA", "DEPARTURE SUMMA2 RW16L BTG", "DEPARTURE OPEN - -", "ARRIVAL OLM7 RW28R BTG", "APPROACH I28R -", "INSERT %d B/K1", "INSERT %d D/K1", "INSERT %d C/K1"}
	x := uint64(9)
	next := func(n int) int {
		x = x*6364136223846793005 + 1442695040888963407
		return int(x>>33) % n
	}
	accepted := 0
	for range 400 {
		p := planOf(t, db, -1, "IF KSEA/K1; TF B/K1; TF C/K1; TF KPDX/K1")
		for range 40 {
			s := edits[next(len(edits))]
			if strings.Contains(s, "%") {
				s = fmt.Sprintf(s, next(len(p.Entries)+2))
			}
			e, _ := Parse(s)
			q, f := Apply(db, p, e)
			if f != api.OK {
				continue
			}
			accepted++
			if g := plan.Check(q); g != api.OK {
				t.Fatalf("%s of %s: %v", s, show(p), g)
			}
			if e.Op != api.DirectTo {
				if q.Active != p.Active {
					t.Fatalf("%s moves Active from %d to %d", s, p.Active, q.Active)
				}
				for i := 0; i <= p.Active; i++ {
					a, b := p.Entries[i], q.Entries[i]
					if i == p.Active && (e.Op == api.SetAltitude || e.Op == api.SetSpeed || e.Op == api.SetRNP) {
						b.Leg.Alt, b.Leg.Speed, b.Leg.RNP = a.Leg.Alt, a.Leg.Speed, a.Leg.RNP
					}
					if a != b {
						t.Fatalf("%s changes entry %d of %s", s, i, show(p))
					}
				}
			} else if q.Active != 0 {
				t.Fatalf("%s: active %d", s, q.Active)
			}
			p = q
			if i := next(len(p.Entries)); next(6) == 0 && i > p.Active && !p.Entries[i].Gap {
				p.Active = i
			}
		}
	}
	if accepted < 2000 {
		t.Errorf("only %d edits", accepted)
	}
}
