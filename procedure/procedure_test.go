package procedure

import (
	"fmt"
	"reflect"
	"slices"
	"strings"
	"testing"

	"flightdeck/api"
	"flightdeck/leg"
)

// legs reads legs, separated by semicolons.
func legs(s string) []api.Leg {
	var l []api.Leg
	for _, text := range strings.Split(s, ";") {
		x, _, e := leg.Parse(text)
		if e != api.OK {
			panic(text)
		}
		l = append(l, x)
	}
	return l
}

func part(k api.PartKind, name, l string) api.Part {
	return api.Part{Kind: k, Name: name, Legs: legs(l)}
}

func departure() api.Procedure {
	return api.Procedure{Airport: "KSEA", Name: "SUMMA2", Kind: api.Departure, Parts: []api.Part{
		part(api.RunwayPart, "RW16L", "CA 160000000 1000+;DF A/00"),
		part(api.RunwayPart, "RW34R", "IF B/00;TF A/00"),
		part(api.CommonPart, "", "IF A/00;TF C/00"),
		part(api.EnroutePart, "BTG", "IF C/00;TF D/00"),
		part(api.EnroutePart, "OLM", "IF E/00;TF D/00"),
	}}
}

func arrival() api.Procedure {
	return api.Procedure{Airport: "KSEA", Name: "OLM7", Kind: api.Arrival, Parts: []api.Part{
		part(api.EnroutePart, "BTG", "IF D/00;TF C/00"),
		part(api.CommonPart, "", "IF C/00;TF A/00"),
		part(api.RunwayPart, "RW16L", "IF A/00;TF F/00"),
	}}
}

func approach() api.Procedure {
	return api.Procedure{Airport: "KSEA", Name: "I16L", Kind: api.Approach, Parts: []api.Part{
		part(api.EnroutePart, "BTG", "IF D/00;TF C/00"),
		part(api.CommonPart, "", "IF C/00;TF RW16L/KSEA"),
		part(api.MissedPart, "", "CA 160000000 2000+;DF A/00;HM A/00 R 160000000 d5"),
	}}
}

// P17.1
func TestCheck(t *testing.T) {
	for _, p := range []api.Procedure{departure(), arrival(), approach()} {
		if e := Check(p); e != api.OK {
			t.Errorf("%s: %v", p.Name, e)
		}
	}
	for i, c := range []struct {
		p      api.Procedure
		change func(p *api.Procedure)
		want   api.Errno
	}{
		{departure(), func(p *api.Procedure) { p.Airport = "KSEATAC"; p.Kind = 0 }, api.ErrName},
		{departure(), func(p *api.Procedure) { p.Airport = "" }, api.ErrName},
		{departure(), func(p *api.Procedure) { p.Name = "ABCDEFGHI"; p.Kind = 0 }, api.ErrName},
		{departure(), func(p *api.Procedure) { p.Name = "2A" }, api.ErrName},
		{departure(), func(p *api.Procedure) { p.Name = "ABCDEFGH" }, api.OK},
		{departure(), func(p *api.Procedure) { p.Kind = 0; p.Parts = make([]api.Part, 13) }, api.ErrType},
		{departure(), func(p *api.Procedure) { p.Kind = 4 }, api.ErrType},
		{departure(), func(p *api.Procedure) { p.Parts = make([]api.Part, 13) }, api.ErrLimit},
		{departure(), func(p *api.Procedure) { p.Parts = make([]api.Part, 12) }, api.ErrType},
		{departure(), func(p *api.Procedure) { p.Parts[2].Kind = api.MissedPart; p.Parts[2].Name = "X" }, api.ErrType},
		{approach(), func(p *api.Procedure) { p.Parts[0].Kind = api.RunwayPart }, api.ErrType},
		{departure(), func(p *api.Procedure) { p.Parts[2], p.Parts[3] = p.Parts[3], p.Parts[2]; p.Parts[3].Name = "X" }, api.ErrOrder},
		{departure(), func(p *api.Procedure) { p.Parts[0], p.Parts[1] = p.Parts[1], p.Parts[0] }, api.ErrOrder},
		{departure(), func(p *api.Procedure) { p.Parts[4].Name = "ABC" }, api.ErrOrder},
		{departure(), func(p *api.Procedure) { p.Parts[4].Name = "BTG"; p.Parts[4].Legs = nil }, api.ErrExists},
		{departure(), func(p *api.Procedure) { p.Parts = append(p.Parts[:3:3], p.Parts[2:]...) }, api.ErrExists},
		{departure(), func(p *api.Procedure) { p.Parts[0].Name = ""; p.Parts[0].Legs = nil }, api.ErrName},
		{departure(), func(p *api.Procedure) { p.Parts[0].Name = "16L" }, api.ErrName},
		{departure(), func(p *api.Procedure) { p.Parts[4].Name = "ZBCDEFGHI" }, api.ErrName},
		{departure(), func(p *api.Procedure) { p.Parts[2].Name = "X" }, api.ErrName},
		{approach(), func(p *api.Procedure) { p.Parts[2].Name = "X" }, api.ErrName},
		{departure(), func(p *api.Procedure) { p.Parts[0].Legs = nil }, api.ErrArg},
		{departure(), func(p *api.Procedure) { p.Parts[4].Legs = make([]api.Leg, 25) }, api.ErrLimit},
		{departure(), func(p *api.Procedure) { p.Parts[4].Legs = make([]api.Leg, 24) }, api.ErrType},
		{departure(), func(p *api.Procedure) { p.Parts[0].Legs[1].Course = 1 }, api.ErrArg},
		{departure(), func(p *api.Procedure) { p.Parts[2].Legs[0].Speed = -1 }, api.ErrRange},
		{departure(), func(p *api.Procedure) { p.Parts[2].Legs = legs("TF A/00") }, api.ErrOrder},
		{departure(), func(p *api.Procedure) { p.Parts[2].Legs = legs("DF A/00") }, api.ErrOrder},
		{departure(), func(p *api.Procedure) { p.Parts[4].Legs = legs("CF A/00 000000000") }, api.ErrOrder},
		{departure(), func(p *api.Procedure) { p.Parts[0].Legs = legs("TF A/00") }, api.ErrOrder},
		{departure(), func(p *api.Procedure) { p.Parts[0].Legs = legs("CI 000000000;CF A/00 000000000") }, api.ErrOrder},
		{departure(), func(p *api.Procedure) { p.Parts[0].Legs = legs("FA A/00 000000000 5000") }, api.ErrOrder},
		{departure(), func(p *api.Procedure) { p.Parts[0].Legs = legs("CF A/00 000000000") }, api.OK},
		{departure(), func(p *api.Procedure) { p.Parts[0].Legs = legs("CD @A/00 000000000 d5") }, api.OK},
		{departure(), func(p *api.Procedure) { p.Parts[0].Legs = legs("CR @A/00 000000000 t000000001") }, api.OK},
		{approach(), func(p *api.Procedure) { p.Parts[2].Legs = legs("DF A/00") }, api.OK},
		{approach(), func(p *api.Procedure) { p.Parts[2].Legs = legs("TF A/00") }, api.ErrOrder},
		{approach(), func(p *api.Procedure) { p.Parts[0].Legs = legs("DF A/00") }, api.ErrOrder},
		{arrival(), func(p *api.Procedure) { p.Parts[2].Legs = legs("DF A/00") }, api.ErrOrder},
		{departure(), func(p *api.Procedure) { p.Parts[2].Legs = legs("IF A/00;IF A/00") }, api.ErrOrder},
		{departure(), func(p *api.Procedure) { p.Parts[2].Legs = legs("IF A/00;TF B/00;HM C/00 R 000000000 d5") }, api.ErrOrder},
		{departure(), func(p *api.Procedure) { p.Parts[2].Legs = legs("IF A/00;CA 000000000 5000;TF C/00") }, api.ErrOrder},
		{departure(), func(p *api.Procedure) { p.Parts = nil }, api.ErrNone},
		{arrival(), func(p *api.Procedure) { p.Parts = p.Parts[:1] }, api.OK},
		{approach(), func(p *api.Procedure) { p.Parts = p.Parts[:1] }, api.ErrNone},
		{approach(), func(p *api.Procedure) { p.Parts = p.Parts[1:2] }, api.OK},
	} {
		c.change(&c.p)
		if e := Check(c.p); e != c.want {
			t.Errorf("case %d: %v, want %v", i, e, c.want)
		}
		if l, e := Expand(c.p, "RW16L", "NOWHERE"); c.want != api.OK && (len(l) != 0 || e != c.want) {
			t.Errorf("case %d: Expand %v, %v", i, l, e)
		}
		if l := Missed(c.p); c.want != api.OK && len(l) != 0 {
			t.Errorf("case %d: Missed %v", i, l)
		}
	}
	many := departure()
	many.Parts = nil
	for i := range 12 {
		many.Parts = append(many.Parts, part(api.RunwayPart, fmt.Sprintf("R%02d", i), "IF A/00"))
	}
	many.Parts[0].Legs = slices.Repeat(legs("IF A/00;TF B/00;TF A/00"), 8)
	for i := 3; i < 24; i += 3 {
		many.Parts[0].Legs[i].Type = api.TF
	}
	if e := Check(many); e != api.OK {
		t.Errorf("12 parts, one of 24 legs: %v", e)
	}
}

// P17.2
func TestNamesPart(t *testing.T) {
	p := departure()
	p.Kind = 77
	p.Parts = append(p.Parts, part(api.RunwayPart, "RW16L", "IF X/00"))
	if got := Names(p, api.RunwayPart); !slices.Equal(got, []string{"RW16L", "RW34R", "RW16L"}) {
		t.Errorf("Names: %v", got)
	}
	if got := Names(p, api.CommonPart); !slices.Equal(got, []string{""}) || len(Names(p, api.MissedPart)) != 0 {
		t.Errorf("Names: %v", got)
	}
	got, ok := Part(p, api.RunwayPart, "RW16L")
	if !ok || !reflect.DeepEqual(got, p.Parts[0]) {
		t.Errorf("Part: %v, %v", got, ok)
	}
	got.Legs[0].Speed = 99
	if p.Parts[0].Legs[0].Speed != 0 {
		t.Errorf("Part shares memory")
	}
	if got, ok := Part(p, api.EnroutePart, "RW16L"); ok || !reflect.DeepEqual(got, api.Part{}) {
		t.Errorf("Part of nothing: %v, %v", got, ok)
	}
}

// P17.3
func TestJoint(t *testing.T) {
	for _, c := range []struct{ a, b, want string }{
		{"IF A/00;TF B/00", "IF B/00;TF C/00", "IF A/00;TF B/00;TF C/00"},
		{"IF A/00;TF B/00", "IF D/00;TF C/00", "IF A/00;TF B/00;IF D/00;TF C/00"},
		{"IF A/00;TF B/00", "IF B/00", "IF A/00;TF B/00"},
		{"IF A/00;TF B/00", "TF B/00;TF C/00", "IF A/00;TF B/00;TF B/00;TF C/00"},
		{"IF A/00;FM A/00 000000000", "IF A/00;TF C/00", "IF A/00;FM A/00 000000000;IF A/00;TF C/00"},
		{"IF A/00;HM A/00 R 000000000 d5", "IF A/00;RF C/00 @D/00 R r5", "IF A/00;HM A/00 R 000000000 d5;IF A/00;RF C/00 @D/00 R r5"},
		{"IF A/00;HM A/00 R 000000000 d5", "IF A/00;TF C/00", "IF A/00;HM A/00 R 000000000 d5;TF C/00"},
		{"CA 000000000 5000", "IF A/00;TF C/00", "CA 000000000 5000;IF A/00;TF C/00"},
	} {
		a, b := legs(c.a), legs(c.b)
		spare := append(make([]api.Leg, 0, 9), a...)
		got := Joint(spare, b)
		if !slices.Equal(got, legs(c.want)) || !slices.Equal(spare, a) || spare[:9][len(a)] != (api.Leg{}) || !slices.Equal(b, legs(c.b)) {
			t.Errorf("Joint(%s, %s) = %v", c.a, c.b, got)
		}
	}
	a := legs("IF A/00;TF B/00")
	for _, got := range [][]api.Leg{Joint(a, nil), Joint(nil, a)} {
		if !slices.Equal(got, a) {
			t.Errorf("Joint with nothing: %v", got)
		}
		got[0].Speed = 5
		if a[0].Speed != 0 {
			t.Errorf("Joint shares memory")
		}
	}
	if len(Joint(nil, nil)) != 0 {
		t.Errorf("Joint of nothing")
	}
}

// P17.4, P17.5, P17.7
func TestExpand(t *testing.T) {
	common := departure()
	common.Parts = common.Parts[2:3]
	enroute := departure()
	enroute.Parts = enroute.Parts[3:]
	for i, c := range []struct {
		p                  api.Procedure
		runway, transition string
		want               string
		e                  api.Errno
	}{
		{departure(), "RW16L", "", "CA 160000000 1000+;DF A/00;TF C/00", api.OK},
		{departure(), "RW34R", "BTG", "IF B/00;TF A/00;TF C/00;TF D/00", api.OK},
		{departure(), "RW34R", "OLM", "IF B/00;TF A/00;TF C/00;IF E/00;TF D/00", api.OK},
		{departure(), "RW17", "NONE", "", api.ErrNone},
		{departure(), "", "BTG", "", api.ErrNone},
		{departure(), "RW16L", "ABC", "", api.ErrNone},
		{arrival(), "RW16L", "BTG", "IF D/00;TF C/00;TF A/00;TF F/00", api.OK},
		{arrival(), "RW16L", "", "IF C/00;TF A/00;TF F/00", api.OK},
		{approach(), "NONE", "BTG", "IF D/00;TF C/00;TF RW16L/KSEA", api.OK},
		{approach(), "", "", "IF C/00;TF RW16L/KSEA", api.OK},
		{common, "NONE", "", "IF A/00;TF C/00", api.OK},
		{enroute, "", "", "", api.ErrNone},
		{enroute, "", "OLM", "IF E/00;TF D/00", api.OK},
	} {
		got, e := Expand(c.p, c.runway, c.transition)
		if e != c.e || e == api.OK && !slices.Equal(got, legs(c.want)) || e != api.OK && len(got) != 0 {
			t.Errorf("case %d: %v, %v", i, got, e)
		}
		for i := 1; i < len(got); i++ {
			if got[i].Type != api.IF && !leg.Joins(got[i-1], got[i]) {
				t.Errorf("case %d: leg %d does not join", i, i)
			}
		}
	}
	p := approach()
	if got := Missed(p); !slices.Equal(got, legs("CA 160000000 2000+;DF A/00;HM A/00 R 160000000 d5")) {
		t.Errorf("Missed: %v", got)
	}
	Missed(p)[0].Speed = 9
	if p.Parts[2].Legs[0].Speed != 0 || len(Missed(arrival())) != 0 {
		t.Errorf("Missed shares memory")
	}
}

// P17.6
func TestFind(t *testing.T) {
	key := func(airport string, k api.ProcKind, name string) api.Procedure {
		return api.Procedure{Airport: airport, Kind: k, Name: name}
	}
	ordered := []api.Procedure{key("", 0, ""), key("A", 1, "B"), key("A", 1, "C"), key("A", 2, "A"), key("AB", 1, "A"), key("B", 1, "A")}
	for i, p := range ordered {
		for j, q := range ordered {
			want := 0
			if i < j {
				want = -1
			} else if i > j {
				want = 1
			}
			if Compare(p, q) != want {
				t.Errorf("Compare(%v, %v) = %d", p, q, Compare(p, q))
			}
		}
	}
	second := departure()
	second.Parts = nil
	l := []api.Procedure{arrival(), departure(), second}
	p, ok := Find(l, "KSEA", api.Departure, "SUMMA2")
	if !ok || !reflect.DeepEqual(p, departure()) {
		t.Errorf("Find: %v, %v", p, ok)
	}
	p.Parts[0].Legs[0].Speed = 9
	p.Parts[1].Name = "X"
	if !reflect.DeepEqual(l[1], departure()) {
		t.Errorf("Find shares memory")
	}
	for _, k := range []api.Procedure{key("KSEB", api.Departure, "SUMMA2"), key("KSEA", api.Arrival, "SUMMA2"), key("KSEA", api.Departure, "SUMMA3")} {
		if p, ok := Find(l, k.Airport, k.Kind, k.Name); ok || !reflect.DeepEqual(p, api.Procedure{}) {
			t.Errorf("Find of nothing: %v, %v", p, ok)
		}
	}
}
