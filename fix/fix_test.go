package fix

import (
	"math"
	"slices"
	"strings"
	"testing"

	"flightdeck/api"
)

func fix(ident, region string, kind api.Kind, lat, lon, elev, distance int64) api.Fix {
	return api.Fix{Ident: ident, Region: region, Kind: kind, Pos: api.Pos{Lat: lat, Lon: lon}, Elev: elev, Range: distance}
}

// good are valid fixes with their lines.
func good() map[string]api.Fix {
	return map[string]api.Fix{
		"WAYPOINT SUMMA K1 N46332000W122001500":         fix("SUMMA", "K1", api.Waypoint, 16_760_000, -43_921_500, 0, 0),
		"WAYPOINT A 00 N00000000E000000000":             fix("A", "00", api.Waypoint, 0, 0, 0, 0),
		"VOR SEA K1 N46332000W122001500 130+45":         fix("SEA", "K1", api.VOR, 16_760_000, -43_921_500, 0, 780_045),
		"DME ABC123 ZZ N90000000E180000000 0+1":         fix("ABC123", "ZZ", api.DME, api.Quarter, api.Half, 0, 1),
		"NDB N Z9 S90000000W000000001 1333+2000":        fix("N", "Z9", api.NDB, -api.Quarter, -1, 0, api.MaxDist),
		"AIRPORT KSEA K1 N46332000W122001500 432.50":    fix("KSEA", "K1", api.Airport, 16_760_000, -43_921_500, 43_250, 0),
		"RUNWAY RW16L KSEA N46332000W122001500 432":     fix("RW16L", "KSEA", api.Runway, 16_760_000, -43_921_500, 43_200, 0),
		"RUNWAY RW36 K N46332000W122001500 -2000":       fix("RW36", "K", api.Runway, 16_760_000, -43_921_500, api.MinAlt, 0),
		"RUNWAY RW01C ABCDEF N46332000W122001500 60000": fix("RW01C", "ABCDEF", api.Runway, 16_760_000, -43_921_500, api.MaxAlt, 0),
		"RUNWAY RW29R KSEA N46332000W122001500 0":       fix("RW29R", "KSEA", api.Runway, 16_760_000, -43_921_500, 0, 0),
	}
}

// P14.1, P14.5, P14.6
func TestGood(t *testing.T) {
	for line, f := range good() {
		if e := Check(f); e != api.OK {
			t.Errorf("Check(%v) = %v", f, e)
		}
		if s, e := Text(f); s != line || e != api.OK {
			t.Errorf("Text(%v) = %s, %v", f, s, e)
		}
		if g, e := Parse(line); g != f || e != api.OK {
			t.Errorf("Parse(%s) = %v, %v", line, g, e)
		}
		if g, e := Parse("  " + strings.ReplaceAll(line, " ", "   ") + " # so"); g != f || e != api.OK {
			t.Errorf("Parse of %s with more blanks = %v, %v", line, g, e)
		}
	}
}

// P14.1
func TestCheck(t *testing.T) {
	for _, c := range []struct {
		f    api.Fix
		want api.Errno
	}{
		{api.Fix{}, api.ErrType},
		{fix("", "", 7, 0, api.Half+1, 1, 1), api.ErrType},
		{fix("", "K1", api.Waypoint, 0, api.Half+1, 1, 1), api.ErrName},
		{fix("ABCDEFG", "K1", api.Waypoint, 0, 0, 0, 0), api.ErrName},
		{fix("1A", "K1", api.Waypoint, 0, 0, 0, 0), api.ErrName},
		{fix("a", "K1", api.Waypoint, 0, 0, 0, 0), api.ErrName},
		{fix("A", "K", api.Waypoint, 0, 0, 0, 0), api.ErrName},
		{fix("A", "K12", api.Waypoint, 0, api.Half+1, 0, 0), api.ErrName},
		{fix("A", "k1", api.Waypoint, 0, 0, 0, 0), api.ErrName},
		{fix("A", "K-", api.VOR, 0, 0, 0, 5), api.ErrName},
		{fix("A", "K1", api.Waypoint, 0, api.Half+1, 1, 1), api.ErrRange},
		{fix("A", "K1", api.Waypoint, api.Quarter+1, 0, 1, 1), api.ErrRange},
		{fix("A", "K1", api.Waypoint, 0, -api.Half, 1, 1), api.ErrRange},
		{fix("A", "K1", api.Waypoint, 0, 0, 1, 1), api.ErrArg},
		{fix("A", "K1", api.Waypoint, 0, 0, 0, 1), api.ErrArg},
		{fix("A", "K1", api.VOR, 0, 0, 1, 0), api.ErrArg},
		{fix("A", "K1", api.VOR, 0, 0, 0, 0), api.ErrRange},
		{fix("A", "K1", api.DME, 0, 0, 0, -1), api.ErrRange},
		{fix("A", "K1", api.NDB, 0, 0, 0, api.MaxDist+1), api.ErrRange},
		{fix("A", "K1", api.Airport, 0, 0, api.MinAlt-1, 1), api.ErrRange},
		{fix("A", "K1", api.Airport, 0, 0, api.MaxAlt+1, 1), api.ErrRange},
		{fix("A", "K1", api.Airport, 0, 0, 0, 1), api.ErrArg},
		{fix("RW16", "KSEA", api.Runway, 0, 0, api.MaxAlt+1, 0), api.ErrRange},
		{fix("RW16", "KSEA", api.Runway, 0, 0, 0, 5), api.ErrArg},
		{fix("RW16", "1K", api.Runway, 0, 0, 0, 0), api.ErrName},
		{fix("RW16", "KSEATAC", api.Runway, 0, 0, 0, 0), api.ErrName},
		{fix("RW16", "", api.Runway, 0, 0, 0, 0), api.ErrName},
	} {
		if e := Check(c.f); e != c.want {
			t.Errorf("Check(%v) = %v, want %v", c.f, e, c.want)
		}
		if s, e := Text(c.f); s != "" || e != c.want {
			t.Errorf("Text(%v) = %s, %v, want %v", c.f, s, e, c.want)
		}
	}
	for ident, want := range map[string]bool{"RW01": true, "RW36": true, "RW09L": true, "RW10C": true, "RW20R": true, "RW00": false, "RW37": false, "RW99": false, "RW1": false, "RW": false, "RW01X": false, "RW01LR": false, "RW0L": false, "RWL": false, "R01": false, "XX01": false, "RW0A": false, "RWA1": false, "RW2:": false, "": false} {
		if e := Check(fix(ident, "KSEA", api.Runway, 0, 0, 0, 0)); e != map[bool]api.Errno{true: api.OK, false: api.ErrName}[want] {
			t.Errorf("the runway %q: %v", ident, e)
		}
	}
}

// P14.2
func TestRefs(t *testing.T) {
	if Ref(api.Fix{Ident: "SUMMA", Region: "K1"}) != "SUMMA/K1" || Ref(api.Fix{}) != "/" || Ref(api.Fix{Ident: "a/", Region: " "}) != "a// " {
		t.Errorf("Ref")
	}
	for ref, want := range map[string][2]string{"SUMMA/K1": {"SUMMA", "K1"}, "RW16L/KSEA": {"RW16L", "KSEA"}, "A/00": {"A", "00"}, "A/9Z": {"A", "9Z"}, "A/B": {"A", "B"}, "ABCDEF/ABCDEF": {"ABCDEF", "ABCDEF"}} {
		if ident, region, e := SplitRef(ref); ident != want[0] || region != want[1] || e != api.OK {
			t.Errorf("SplitRef(%s) = %s, %s, %v", ref, ident, region, e)
		}
	}
	for ref, want := range map[string]api.Errno{"": api.ErrForm, "SUMMA": api.ErrForm, "/K1": api.ErrName, "SUMMA/": api.ErrName, "/": api.ErrName, "1A/K1": api.ErrName, "ABCDEFG/K1": api.ErrName, "A/ABCDEFG": api.ErrName, "A/0": api.ErrName, "A/000": api.ErrName, "A/K1/": api.ErrName, "A/K/1": api.ErrName, "a/K1": api.ErrName, "A/k1": api.ErrName, "A/K ": api.ErrName} {
		if ident, region, e := SplitRef(ref); ident != "" || region != "" || e != want {
			t.Errorf("SplitRef(%q) = %s, %s, %v", ref, ident, region, e)
		}
	}
}

// P14.3
func TestLists(t *testing.T) {
	l := []api.Fix{fix("B", "K1", 1, 0, 0, 0, 0), fix("A", "K2", 1, 0, 0, 0, 0), fix("B", "K1", 2, 0, 0, 0, 1), fix("A", "K1", 1, 0, 0, 0, 0), fix("AB", "K1", 1, 0, 0, 0, 0)}
	keep := slices.Clone(l)
	sorted := Sort(l)
	if want := []api.Fix{l[3], l[1], l[4], l[0], l[2]}; !slices.Equal(sorted, want) || !slices.Equal(l, keep) {
		t.Errorf("Sort: %v", sorted)
	}
	sorted[0].Ident = "X"
	if !slices.Equal(l, keep) || len(Sort(nil)) != 0 {
		t.Errorf("Sort shares memory")
	}
	if f, ok := Find(l, "B/K1"); !ok || f != l[0] {
		t.Errorf("Find: %v, %v", f, ok)
	}
	if f, ok := Find(l, "B/K2"); ok || f != (api.Fix{}) {
		t.Errorf("Find of nothing: %v, %v", f, ok)
	}
	if got := Match(l, "A"); !slices.Equal(got, []api.Fix{l[1], l[3]}) {
		t.Errorf("Match: %v", got)
	}
	if got := Match(l, "C"); len(got) != 0 {
		t.Errorf("Match of nothing: %v", got)
	}
}

// P14.4
func TestNear(t *testing.T) {
	l := []api.Fix{fix("C", "K1", 1, 0, 9000, 0, 0), fix("B", "K1", 1, 0, -3000, 0, 0), fix("A", "K1", 1, 3000, 0, 0, 0), fix("A", "K1", 2, -3000, 0, 0, 5), fix("D", "K1", 1, 0, 0, 0, 0)}
	for n, want := range [][]string{{}, {"D/K1"}, {"D/K1", "A/K1"}, {"D/K1", "A/K1", "A/K1"}, {"D/K1", "A/K1", "A/K1", "B/K1"}, {"D/K1", "A/K1", "A/K1", "B/K1", "C/K1"}, {"D/K1", "A/K1", "A/K1", "B/K1", "C/K1"}} {
		if got, e := Near(l, api.Pos{}, n); !slices.Equal(got, want) || e != api.OK {
			t.Errorf("Near %d: %v, %v", n, got, e)
		}
	}
	if got, e := Near(l, api.Pos{}, math.MaxInt); len(got) != 5 || e != api.OK {
		t.Errorf("Near all: %v, %v", got, e)
	}
	bad := append(slices.Clone(l), fix("X", "K1", 1, api.Quarter+1, 0, 0, 0))
	for _, c := range []struct {
		l    []api.Fix
		p    api.Pos
		n    int
		want api.Errno
	}{{l, api.Pos{}, -1, api.ErrArg}, {bad, api.Pos{}, math.MinInt, api.ErrArg}, {bad, api.Pos{}, 0, api.ErrArg}, {bad, api.Pos{}, 1, api.ErrArg}, {l, api.Pos{Lon: -api.Half}, 0, api.ErrArg}, {nil, api.Pos{Lon: -api.Half}, 3, api.OK}} {
		if got, e := Near(c.l, c.p, c.n); len(got) != 0 || e != c.want {
			t.Errorf("Near(%v, %v, %d) = %v, %v", c.l, c.p, c.n, got, e)
		}
	}
}

// P14.6
func TestTake(t *testing.T) {
	const pos = "N46332000W122001500"
	for s, want := range map[string]api.Diag{
		"":                                      {Line: 1, Column: 1, Code: api.ErrForm},
		"# only this":                           {Line: 1, Column: 1, Code: api.ErrForm},
		"  FIX SUMMA K1 " + pos:                 {Line: 1, Column: 3, Code: api.ErrForm},
		"waypoint SUMMA K1 " + pos:              {Line: 1, Column: 1, Code: api.ErrForm},
		"WAYPOINT":                              {Line: 1, Column: 9, Code: api.ErrForm},
		"WAYPOINT 1A K1 " + pos:                 {Line: 1, Column: 10, Code: api.ErrName},
		"WAYPOINT SUMMA K " + pos:               {Line: 1, Column: 16, Code: api.ErrName},
		"WAYPOINT SUMMA":                        {Line: 1, Column: 15, Code: api.ErrForm},
		"WAYPOINT SUMMA K1":                     {Line: 1, Column: 18, Code: api.ErrForm},
		"WAYPOINT SUMMA K1 N4633200":            {Line: 1, Column: 19, Code: api.ErrForm},
		"WAYPOINT SUMMA K1 N90000001W122001500": {Line: 1, Column: 19, Code: api.ErrRange},
		"WAYPOINT SUMMA K1 " + pos + " 5":       {Line: 1, Column: 39, Code: api.ErrForm},
		"RUNWAY RW37 KSEA " + pos + " 432":      {Line: 1, Column: 8, Code: api.ErrName},
		"RUNWAY RW36 1KS " + pos + " 432":       {Line: 1, Column: 13, Code: api.ErrName},
		"RUNWAY RW36 KSEA " + pos:               {Line: 1, Column: 37, Code: api.ErrForm},
		"RUNWAY RW36 KSEA " + pos + " 1.00":     {Line: 1, Column: 38, Code: api.ErrForm},
		"AIRPORT A K1 " + pos + " 60001":        {Line: 1, Column: 34, Code: api.ErrRange},
		"AIRPORT A K1 " + pos + " 0 0":          {Line: 1, Column: 36, Code: api.ErrForm},
		"VOR SEA K1 " + pos + " 0":              {Line: 1, Column: 32, Code: api.ErrRange},
		"VOR SEA K1 " + pos:                     {Line: 1, Column: 31, Code: api.ErrForm},
		"VOR SEA K1 " + pos + " 1+0":            {Line: 1, Column: 32, Code: api.ErrForm},
		"VOR SEA K1 " + pos + " 2000":           {Line: 1, Column: 32, Code: api.ErrRange},
	} {
		if f, e := Parse(s); f != (api.Fix{}) || e != want.Code {
			t.Errorf("Parse(%q) = %v, %v", s, f, e)
		}
		var l api.Line
		l.Number = 1
		for column, word := 1, ""; column <= len(s)+1; column++ {
			if column <= len(s) && s[column-1] != ' ' && s[0] != '#' {
				word += s[column-1 : column]
			} else if word != "" {
				l.Fields = append(l.Fields, api.Field{Text: word, Column: column - len(word)})
				word = ""
			}
		}
		if f, d, failed := Take(l); f != (api.Fix{}) || d != want || !failed {
			t.Errorf("Take of %q = %v, %v, %v", s, f, d, failed)
		}
	}
	if _, e := Parse("WAYPOINT\tA"); e != api.ErrForm {
		t.Errorf("a byte 9: %v", e)
	}
	if _, e := Parse(strings.Repeat(" ", 201)); e != api.ErrLimit {
		t.Errorf("a long line: %v", e)
	}
	l := api.Line{Number: 9, Fields: []api.Field{{Text: "WAYPOINT", Column: 1}, {Text: "SUMMA", Column: 10}, {Text: "K1", Column: 16}, {Text: pos, Column: 19}}}
	if f, d, failed := Take(l); failed || d != (api.Diag{}) || f != good()["WAYPOINT SUMMA K1 "+pos] {
		t.Errorf("Take = %v, %v, %v", f, d, failed)
	}
}
