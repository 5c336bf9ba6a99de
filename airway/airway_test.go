package airway

import (
	"fmt"
	"reflect"
	"slices"
	"strings"
	"testing"

	"flightdeck/api"
)

func win(lo, hi int64) api.Window { return api.Window{Lo: lo, Hi: hi} }

func via(ref string, alt api.Window, dir byte) api.AirwayPoint {
	return api.AirwayPoint{Ref: ref, Alt: alt, Dir: dir}
}

// v1 is the airway of the chapter's examples.
func v1() api.Airway {
	return api.Airway{Name: "V1", Points: []api.AirwayPoint{via("A/K1", win(500_000, api.MaxAlt), 0), via("B/K1", free(), 1), via("C/K1", free(), 0)}}
}

// long is an airway with n points.
func long(n int) api.Airway {
	a := api.Airway{Name: "LONG"}
	for i := range n {
		a.Points = append(a.Points, via(fmt.Sprintf("L%d/K1", i), free(), 0))
	}
	return a
}

// P15.1
func TestCheck(t *testing.T) {
	if Check(v1()) != api.OK || Check(long(2)) != api.OK || Check(long(40)) != api.OK {
		t.Errorf("valid airways")
	}
	if Check(long(41)) != api.ErrLimit || Check(long(1)) != api.ErrArg || Check(long(0)) != api.ErrArg {
		t.Errorf("numbers of points")
	}
	for i, c := range []struct {
		change func(a *api.Airway)
		want   api.Errno
	}{
		{func(a *api.Airway) { a.Name = "" }, api.ErrName},
		{func(a *api.Airway) { a.Name = "ABCDEFGHI"; a.Points = nil }, api.ErrName},
		{func(a *api.Airway) { a.Name = "ABCDEFGH" }, api.OK},
		{func(a *api.Airway) { a.Name = "1V" }, api.ErrName},
		{func(a *api.Airway) { a.Points[0].Ref = "A" }, api.ErrName},
		{func(a *api.Airway) { a.Points[1].Ref = "/K1" }, api.ErrName},
		{func(a *api.Airway) { a.Points[1].Ref = "A/K1"; a.Points[1].Dir = 9 }, api.ErrExists},
		{func(a *api.Airway) { a.Points[2].Ref = "A/K1"; a.Points[2].Dir = 9 }, api.ErrExists},
		{func(a *api.Airway) { a.Points[2].Alt.Lo++ }, api.ErrArg},
		{func(a *api.Airway) { a.Points[2].Alt.Hi++ }, api.ErrArg},
		{func(a *api.Airway) { a.Points[2].Dir = 1 }, api.ErrArg},
		{func(a *api.Airway) { a.Points[1].Alt = win(5, 4); a.Points[1].Dir = 3 }, api.ErrRange},
		{func(a *api.Airway) { a.Points[1].Alt.Lo-- }, api.ErrRange},
		{func(a *api.Airway) { a.Points[1].Alt.Hi++ }, api.ErrRange},
		{func(a *api.Airway) { a.Points[1].Dir = 3 }, api.ErrType},
		{func(a *api.Airway) { a.Points[1].Dir = 2 }, api.OK},
		{func(a *api.Airway) { a.Points[0].Dir = 3; a.Points[1].Ref = "" }, api.ErrType},
		{func(a *api.Airway) { a.Points[2].Ref = "RW16L/KSEA" }, api.OK},
	} {
		a := v1()
		c.change(&a)
		if e := Check(a); e != c.want {
			t.Errorf("case %d: %v, want %v", i, e, c.want)
		}
		s, e := Text(a)
		if e != c.want || (s == "") != (c.want != api.OK) {
			t.Errorf("case %d: Text %q, %v", i, s, e)
		}
		if p, e := Expand(a, "x", "y"); len(p) != 0 || e == api.OK || c.want != api.OK && e != c.want {
			t.Errorf("case %d: Expand %v, %v", i, p, e)
		}
	}
}

// P15.2
func TestIndexCommon(t *testing.T) {
	a := v1()
	if Index(a, "A/K1") != 0 || Index(a, "C/K1") != 2 || Index(a, "D/K1") != -1 || Index(api.Airway{}, "") != -1 {
		t.Errorf("Index")
	}
	b := api.Airway{Points: []api.AirwayPoint{via("C/K1", free(), 9), via("x", free(), 0), via("A/K1", free(), 0), via("x", free(), 0)}}
	if got := Common(a, b); !slices.Equal(got, []string{"A/K1", "C/K1"}) {
		t.Errorf("Common: %v", got)
	}
	if got := Common(b, a); !slices.Equal(got, []string{"C/K1", "A/K1"}) {
		t.Errorf("Common: %v", got)
	}
	if got := Common(b, b); !slices.Equal(got, []string{"C/K1", "x", "A/K1", "x"}) || len(Common(a, api.Airway{})) != 0 || Index(b, "x") != 1 {
		t.Errorf("Common of airways that are not valid: %v", got)
	}
}

// P15.3
func TestExpand(t *testing.T) {
	a := v1()
	for _, c := range []struct {
		from, to string
		want     []api.AirwayPoint
		e        api.Errno
	}{
		{"A/K1", "C/K1", []api.AirwayPoint{via("B/K1", win(500_000, api.MaxAlt), 0), via("C/K1", free(), 0)}, api.OK},
		{"A/K1", "B/K1", []api.AirwayPoint{via("B/K1", win(500_000, api.MaxAlt), 0)}, api.OK},
		{"B/K1", "A/K1", []api.AirwayPoint{via("A/K1", win(500_000, api.MaxAlt), 0)}, api.OK},
		{"C/K1", "A/K1", nil, api.ErrOrder},
		{"C/K1", "B/K1", nil, api.ErrOrder},
		{"A/K1", "A/K1", nil, api.ErrArg},
		{"D/K1", "D/K1", nil, api.ErrNone},
		{"D/K1", "A/K1", nil, api.ErrNone},
		{"A/K1", "D/K1", nil, api.ErrNone},
	} {
		p, e := Expand(a, c.from, c.to)
		if !slices.Equal(p, c.want) || e != c.e {
			t.Errorf("Expand from %s to %s = %v, %v", c.from, c.to, p, e)
		}
	}
	a.Points[0].Dir = 2
	if p, e := Expand(a, "A/K1", "B/K1"); len(p) != 0 || e != api.ErrOrder {
		t.Errorf("against backward only: %v, %v", p, e)
	}
	if p, e := Expand(a, "B/K1", "A/K1"); len(p) != 1 || p[0].Dir != 0 || e != api.OK {
		t.Errorf("backward only: %v, %v", p, e)
	}
}

// P15.7, P15.8
func TestText(t *testing.T) {
	const text = "AIRWAY V1\nVIA A/K1 5000+ BOTH\nVIA B/K1 - FORWARD\nVIA C/K1\n"
	if s, e := Text(v1()); s != text || e != api.OK {
		t.Errorf("Text: %q, %v", s, e)
	}
	back := v1()
	back.Points[1].Dir = 2
	for _, a := range []api.Airway{v1(), back, long(40)} {
		s, _ := Text(a)
		b, diags := Parse("# so\n\n" + strings.ReplaceAll(s, " ", "  "))
		if !reflect.DeepEqual(a, b) || len(diags) != 0 {
			t.Errorf("Parse(%q) = %v, %v", s, b, diags)
		}
	}
	for s, want := range map[string]api.Diag{
		"":                                       {Line: 1, Column: 1, Code: api.ErrForm},
		"\n#\n":                                  {Line: 1, Column: 1, Code: api.ErrForm},
		"\nVIA A/K1":                             {Line: 2, Column: 1, Code: api.ErrForm},
		"AIRWAY":                                 {Line: 1, Column: 7, Code: api.ErrForm},
		"AIRWAY  v1":                             {Line: 1, Column: 9, Code: api.ErrName},
		"AIRWAY ABCDEFGHI":                       {Line: 1, Column: 8, Code: api.ErrName},
		"AIRWAY V1 X":                            {Line: 1, Column: 11, Code: api.ErrForm},
		"\n AIRWAY V1":                           {Line: 2, Column: 2, Code: api.ErrArg},
		"AIRWAY V1\nVIA A/K1":                    {Line: 1, Column: 1, Code: api.ErrArg},
		"AIRWAY V1\nVIA A/K1\nVIA B/K1":          {Line: 2, Column: 9, Code: api.ErrForm},
		"AIRWAY V1\nVIA A/K1 -\nVIA B/K1":        {Line: 2, Column: 11, Code: api.ErrForm},
		"AIRWAY V1\nVIA A/K1 5000":               {Line: 2, Column: 10, Code: api.ErrForm},
		"AIRWAY V1\nVIA A/K1 - X\nVIA B":         {Line: 2, Column: 12, Code: api.ErrForm},
		"AIRWAY V1\nVIA A/K1 - BOTH 5\nVIA B/K1": {Line: 2, Column: 17, Code: api.ErrForm},
		"AIRWAY V1\nVIA A/K1 60001 BOTH\nVIA B/K1":    {Line: 2, Column: 10, Code: api.ErrRange},
		"AIRWAY V1\nVIA A/K1 6:5 BOTH\nVIA B/K1":      {Line: 2, Column: 10, Code: api.ErrOrder},
		"AIRWAY V1\nVIA A/K1 5:5 BOTH\nVIA B/K1":      {Line: 2, Column: 10, Code: api.ErrForm},
		"AIRWAY V1\nVIA A - BOTH\nVIA B/K1":           {Line: 2, Column: 5, Code: api.ErrName},
		"AIRWAY V1\nVIA - BOTH\nVIA B/K1":             {Line: 2, Column: 5, Code: api.ErrName},
		"AIRWAY V1\nVIA\nVIA B/K1":                    {Line: 2, Column: 4, Code: api.ErrForm},
		"AIRWAY V1\nVIA A/K1 - BOTH\nXIA B/K1":        {Line: 3, Column: 1, Code: api.ErrForm},
		"AIRWAY V1\nVIA A/K1 - BOTH\nVIA A/K1":        {Line: 1, Column: 1, Code: api.ErrExists},
		"AIRWAY V1\nVIA A/K1 - BOTH\nVIA B/K1 - BOTH": {Line: 3, Column: 10, Code: api.ErrForm},
	} {
		a, diags := Parse(s)
		if !reflect.DeepEqual(a, api.Airway{}) || len(diags) != 1 || diags[0] != want {
			t.Errorf("Parse(%q) = %v, %v, want %v", s, a, diags, want)
		}
	}
	if a, diags := Parse("AIRWAY V1\n\t\nx\x01"); !reflect.DeepEqual(a, api.Airway{}) || !slices.Equal(diags, []api.Diag{{Line: 2, Column: 1, Code: api.ErrForm}, {Line: 3, Column: 2, Code: api.ErrForm}}) {
		t.Errorf("the diagnostics of the records: %v, %v", a, diags)
	}
	s, _ := Text(long(40))
	s = strings.TrimSuffix(s, "VIA L39/K1\n") + "VIA L39/K1 - BOTH\nVIA X/K1\n"
	if _, diags := Parse(s); len(diags) != 1 || diags[0] != (api.Diag{Line: 1, Column: 1, Code: api.ErrLimit}) {
		t.Errorf("too many points: %v", diags)
	}
	if a, d, failed := Take(nil); !failed || d != (api.Diag{Line: 1, Column: 1, Code: api.ErrForm}) || a.Name != "" {
		t.Errorf("Take of nothing: %v, %v", d, failed)
	}
}
