package record

import (
	"math"
	"reflect"
	"strings"
	"testing"

	"flightdeck/api"
)

func field(text string, column int) api.Field { return api.Field{Text: text, Column: column} }

// P8.1
func TestSplit(t *testing.T) {
	full := strings.Repeat("x", 200)
	for _, c := range []struct {
		s      string
		fields []api.Field
		column int
		e      api.Errno
	}{
		{"", nil, 0, api.OK},
		{"   ", nil, 0, api.OK},
		{"# all of it", nil, 0, api.OK},
		{"A  B1 # x", []api.Field{field("A", 1), field("B1", 4)}, 0, api.OK},
		{"  A#B", []api.Field{field("A", 3)}, 0, api.OK},
		{"!~ \"x", []api.Field{field("!~", 1), field("\"x", 4)}, 0, api.OK},
		{"A ", []api.Field{field("A", 1)}, 0, api.OK},
		{"A\tB", nil, 2, api.ErrForm},
		{"A # \x7f", nil, 5, api.ErrForm},
		{"\x1f", nil, 1, api.ErrForm},
		{"ab\xc3\xa9", nil, 3, api.ErrForm},
		{"A\nB", nil, 2, api.ErrForm},
		{full, []api.Field{field(full, 1)}, 0, api.OK},
		{full + "y", nil, 201, api.ErrLimit},
		{"\t" + full, nil, 201, api.ErrLimit},
	} {
		fields, column, e := Split(c.s)
		if len(fields)+len(c.fields) > 0 && !reflect.DeepEqual(fields, c.fields) || column != c.column || e != c.e {
			t.Errorf("Split(%q) = %v, %d, %v", c.s, fields, column, e)
		}
	}
}

// P8.2
func TestRead(t *testing.T) {
	records, diags := Read("A  B1 # x\n\n C")
	want := []api.Line{{Number: 1, Fields: []api.Field{field("A", 1), field("B1", 4)}}, {Number: 3, Fields: []api.Field{field("C", 2)}}}
	if !reflect.DeepEqual(records, want) || len(diags) != 0 {
		t.Errorf("%v %v", records, diags)
	}
	records, diags = Read("A\tB\n C")
	if !reflect.DeepEqual(records, []api.Line{{Number: 2, Fields: []api.Field{field("C", 2)}}}) || !reflect.DeepEqual(diags, []api.Diag{{Line: 1, Column: 2, Code: api.ErrForm}}) {
		t.Errorf("%v %v", records, diags)
	}
	records, diags = Read(strings.Repeat("\t\n", 60) + "A")
	if len(diags) != api.MaxDiags || diags[49] != (api.Diag{Line: 50, Column: 1, Code: api.ErrForm}) || len(records) != 1 || records[0].Number != 61 {
		t.Errorf("%d diagnostics, records %v", len(diags), records)
	}
	line := strings.Repeat("A", 127) + "\n"
	most := strings.Repeat(line, api.MaxSource/128)
	if records, diags = Read(most); len(records) != api.MaxSource/128 || len(diags) != 0 {
		t.Errorf("a source of the greatest length: %d records, %v", len(records), diags)
	}
	if records, diags = Read(most + "A"); len(records) != 0 || !reflect.DeepEqual(diags, []api.Diag{{Line: 1, Column: 1, Code: api.ErrLimit}}) {
		t.Errorf("a source that is too long: %d records, %v", len(records), diags)
	}
	if records, diags = Read(""); len(records) != 0 || len(diags) != 0 {
		t.Errorf("the empty source: %v, %v", records, diags)
	}
}

// P8.3
func TestWrite(t *testing.T) {
	records, _ := Read(" A   B # c\n#\nC")
	s := Write(append(records, api.Line{Number: 9}))
	if s != "A B\nC\n" {
		t.Errorf("%q", s)
	}
	again, _ := Read(s)
	for i := range again {
		for j := range again[i].Fields {
			if again[i].Fields[j].Text != records[i].Fields[j].Text {
				t.Errorf("record %d, field %d", i, j)
			}
		}
	}
	if len(again) != len(records) || Write(nil) != "" {
		t.Errorf("%v", again)
	}
}

// P8.4
func TestNames(t *testing.T) {
	for s, want := range map[string]bool{"": false, "A": true, "A1": true, "1A": false, "ABC": true, "ABCD": false, "aB": false, "A-": false, "A ": false, "Z9Z": true, "É": false} {
		if Name(s, 3) != want {
			t.Errorf("Name(%q)", s)
		}
	}
	if Name("A", 0) || Name("A", -1) || !Name("A", math.MaxInt) {
		t.Errorf("Name with another length")
	}
	for _, c := range []struct {
		s    string
		n    int64
		want api.Errno
	}{
		{"0", 0, api.OK}, {"7", 7, api.OK}, {"-7", -7, api.OK}, {"100", 100, api.OK}, {"-100", -100, api.OK},
		{"101", 0, api.ErrRange}, {"-101", 0, api.ErrRange}, {strings.Repeat("9", 50), 0, api.ErrRange}, {"-" + strings.Repeat("9", 50), 0, api.ErrRange},
		{"", 0, api.ErrForm}, {"-", 0, api.ErrForm}, {"-0", 0, api.ErrForm}, {"00", 0, api.ErrForm}, {"07", 0, api.ErrForm}, {"-07", 0, api.ErrForm}, {"+7", 0, api.ErrForm}, {"7x", 0, api.ErrForm}, {" 7", 0, api.ErrForm}, {"--7", 0, api.ErrForm}, {"1_0", 0, api.ErrForm}, {strings.Repeat("9", 50) + "x", 0, api.ErrForm},
	} {
		if n, e := ParseNumber(c.s, -100, 100); n != c.n || e != c.want {
			t.Errorf("ParseNumber(%q) = %d, %v", c.s, n, e)
		}
	}
	for s, n := range map[string]int64{"9223372036854775807": math.MaxInt64, "-9223372036854775808": math.MinInt64} {
		if got, e := ParseNumber(s, math.MinInt64, math.MaxInt64); got != n || e != api.OK {
			t.Errorf("ParseNumber(%s) = %d, %v", s, got, e)
		}
	}
	for _, s := range []string{"9223372036854775808", "-9223372036854775809"} {
		if got, e := ParseNumber(s, math.MinInt64, math.MaxInt64); got != 0 || e != api.ErrRange {
			t.Errorf("ParseNumber(%s) = %d, %v", s, got, e)
		}
	}
	if _, e := ParseNumber("5", 9, 1); e != api.ErrRange {
		t.Errorf("ParseNumber in an empty range: %v", e)
	}
}

// P8.5
func TestAlts(t *testing.T) {
	for alt, want := range map[int64]string{0: "0", 500_025: "5000.25", -150: "-1.50", 500_000: "5000", 5: "0.05", -5: "-0.05", 10: "0.10", -100: "-1", api.MinAlt: "-2000", api.MaxAlt: "60000", 99: "0.99"} {
		s, e := AltText(alt)
		if s != want || e != api.OK {
			t.Errorf("AltText(%d) = %s, %v", alt, s, e)
		}
		if got, e := ParseAlt(want); got != alt || e != api.OK {
			t.Errorf("ParseAlt(%s) = %d, %v", want, got, e)
		}
	}
	for alt := int64(api.MinAlt); alt <= api.MaxAlt; alt += 37 {
		s, _ := AltText(alt)
		if got, e := ParseAlt(s); got != alt || e != api.OK {
			t.Fatalf("altitude %d: %s, %d, %v", alt, s, got, e)
		}
	}
	for _, alt := range []int64{api.MinAlt - 1, api.MaxAlt + 1, math.MinInt64, math.MaxInt64} {
		if s, e := AltText(alt); s != "" || e != api.ErrRange {
			t.Errorf("AltText(%d) = %s, %v", alt, s, e)
		}
	}
	for s, want := range map[string]api.Errno{"": api.ErrForm, "-": api.ErrForm, "-0": api.ErrForm, "5000.00": api.ErrForm, "5000.2": api.ErrForm, "5000.250": api.ErrForm, "5000.": api.ErrForm, ".25": api.ErrForm, "05": api.ErrForm, "-05": api.ErrForm, "00.25": api.ErrForm, "-0.00": api.ErrForm, "+5": api.ErrForm, "5.x5": api.ErrForm, "5.5x": api.ErrForm, "5.25.25": api.ErrForm, "5.-1": api.ErrForm, "5 ": api.ErrForm, "60001": api.ErrRange, "60000.01": api.ErrRange, "-2000.01": api.ErrRange, "99999999999999999999": api.ErrRange, "-99999999999999999999.25": api.ErrRange, "99999999999999999999.00": api.ErrForm} {
		if got, e := ParseAlt(s); got != 0 || e != want {
			t.Errorf("ParseAlt(%q) = %d, %v", s, got, e)
		}
	}
}

// P8.6
func TestWindows(t *testing.T) {
	for text, w := range map[string]api.Window{"-": {Lo: api.MinAlt, Hi: api.MaxAlt}, "5000": {Lo: 500_000, Hi: 500_000}, "5000+": {Lo: 500_000, Hi: api.MaxAlt}, "5000-": {Lo: api.MinAlt, Hi: 500_000}, "3000:5000": {Lo: 300_000, Hi: 500_000}, "-2000": {Lo: api.MinAlt, Hi: api.MinAlt}, "60000": {Lo: api.MaxAlt, Hi: api.MaxAlt}, "-100-": {Lo: api.MinAlt, Hi: -10_000}, "-100+": {Lo: -10_000, Hi: api.MaxAlt}, "-100:-0.50": {Lo: -10_000, Hi: -50}, "0:0.01": {Lo: 0, Hi: 1}} {
		if s, e := WindowText(w); s != text || e != api.OK {
			t.Errorf("WindowText(%v) = %s, %v", w, s, e)
		}
		if got, e := ParseWindow(text); got != w || e != api.OK {
			t.Errorf("ParseWindow(%s) = %v, %v", text, got, e)
		}
	}
	for _, w := range []api.Window{{Lo: 1, Hi: 0}, {Lo: api.MinAlt - 1, Hi: 0}, {Lo: 0, Hi: api.MaxAlt + 1}, {Lo: math.MinInt64, Hi: math.MaxInt64}, {Lo: api.MaxAlt + 1, Hi: api.MaxAlt + 2}} {
		if s, e := WindowText(w); s != "" || e != api.ErrArg {
			t.Errorf("WindowText(%v) = %s, %v", w, s, e)
		}
	}
	for s, want := range map[string]api.Errno{"": api.ErrForm, "+": api.ErrForm, "--": api.ErrForm, ":": api.ErrForm, "5000:": api.ErrForm, ":5000": api.ErrForm, "5000:5000": api.ErrForm, "5000:3000": api.ErrOrder, "5000++": api.ErrForm, "5000-+": api.ErrForm, "1:2:3": api.ErrForm, "1:2+": api.ErrForm, "05+": api.ErrForm, "5000.00-": api.ErrForm, "60000+": api.ErrForm, "60000-": api.ErrForm, "-2000+": api.ErrForm, "-2000-": api.ErrForm, "-2000:5000": api.ErrForm, "5000:60000": api.ErrForm, "-2000:60000": api.ErrForm, "60001": api.ErrRange, "60001+": api.ErrRange, "-2001-": api.ErrRange, "1:60001": api.ErrRange, "60001:1": api.ErrRange, "60001:x": api.ErrForm, "999999999999999999999:1": api.ErrRange, "60001:60001": api.ErrRange} {
		if got, e := ParseWindow(s); got != (api.Window{}) || e != want {
			t.Errorf("ParseWindow(%q) = %v, %v", s, got, e)
		}
	}
}

// P8.7
func TestDists(t *testing.T) {
	for d, text := range map[int64]string{0: "0", 1: "0+1", 5999: "0+5999", 6000: "1", 780_045: "130+45", api.MaxDist: "1333+2000"} {
		if s, e := DistText(d); s != text || e != api.OK {
			t.Errorf("DistText(%d) = %s, %v", d, s, e)
		}
		if got, e := ParseDist(text); got != d || e != api.OK {
			t.Errorf("ParseDist(%s) = %d, %v", text, got, e)
		}
	}
	for _, d := range []int64{-1, api.MaxDist + 1, math.MinInt64, math.MaxInt64} {
		if s, e := DistText(d); s != "" || e != api.ErrRange {
			t.Errorf("DistText(%d) = %s, %v", d, s, e)
		}
	}
	for s, want := range map[string]api.Errno{"": api.ErrForm, "+": api.ErrForm, "+5": api.ErrForm, "130+": api.ErrForm, "130+0": api.ErrForm, "130+6000": api.ErrForm, "130+045": api.ErrForm, "0130": api.ErrForm, "-1": api.ErrForm, "1+-5": api.ErrForm, "1+2+3": api.ErrForm, "1.5": api.ErrForm, "99999999999999999999+6000": api.ErrForm, "2000": api.ErrRange, "1333+2001": api.ErrRange, "99999999999999999999+5": api.ErrRange} {
		if got, e := ParseDist(s); got != 0 || e != want {
			t.Errorf("ParseDist(%q) = %d, %v", s, got, e)
		}
	}
}
