package cycle

import (
	"bytes"
	"reflect"
	"slices"
	"strings"
	"testing"

	"flightdeck/api"
	"flightdeck/image"
	"flightdeck/leg"
	"flightdeck/navdb"
)

const source = `DATABASE WEST 2612 N46000000W120000000
WAYPOINT A K1 N46000000W120000000
WAYPOINT B K1 N46300000W120000000
AIRPORT KSEA K1 N47000000W121000000 432.50
AIRWAY V1
VIA A/K1 - BOTH
VIA B/K1
AIRWAY V2
VIA B/K1 - BOTH
VIA A/K1
DEPARTURE KSEA D1
PART COMMON
LEG IF A/K1
LEG TF B/K1
ARRIVAL KSEA R1
PART COMMON
LEG IF A/K1
APPROACH KSEA P1
PART COMMON
LEG IF B/K1
`

func compiled(t *testing.T, changes ...string) api.DB {
	t.Helper()
	db, diags := navdb.Compile(strings.NewReplacer(changes...).Replace(source))
	if len(diags) > 0 {
		t.Fatal(diags)
	}
	return db
}

func change(section, how byte, key string) api.Change {
	return api.Change{Section: section, How: how, Key: key}
}

// P20.1
func TestDiff(t *testing.T) {
	a := compiled(t)
	for i, c := range []struct {
		b    api.DB
		want []api.Change
	}{
		{compiled(t), nil},
		{compiled(t, "2612", "2613"), []api.Change{change(1, Changed, "DATABASE")}},
		{compiled(t, "WEST", "EAST"), []api.Change{change(1, Changed, "DATABASE")}},
		{compiled(t, "WAYPOINT B K1 N463", "WAYPOINT B K1 N462"), []api.Change{change(2, Changed, "B/K1")}},
		{compiled(t, "432.50", "432"), []api.Change{change(2, Changed, "KSEA/K1")}},
		{compiled(t, "AIRWAY V1", "WAYPOINT C K1 N46000000W120000000\nAIRWAY V3"), []api.Change{change(2, Added, "C/K1"), change(3, Removed, "AIRWAY V1"), change(3, Added, "AIRWAY V3")}},
		{compiled(t, "VIA A/K1 - BOTH", "VIA A/K1 - FORWARD"), []api.Change{change(3, Changed, "AIRWAY V1")}},
		{compiled(t, "ARRIVAL KSEA R1", "APPROACH KSEA P0"), []api.Change{change(4, Added, "APPROACH KSEA P0"), change(4, Removed, "ARRIVAL KSEA R1")}},
		{compiled(t, "LEG TF B/K1", "LEG TF B/K1 s250"), []api.Change{change(4, Changed, "DEPARTURE KSEA D1")}},
		{compiled(t, "LEG TF B/K1\n", ""), []api.Change{change(4, Changed, "DEPARTURE KSEA D1")}},
		{compiled(t, "ARRIVAL KSEA R1\nPART COMMON", "ARRIVAL KSEA R1\nPART ENROUTE X"), []api.Change{change(4, Changed, "ARRIVAL KSEA R1")}},
	} {
		got := Diff(a, c.b)
		if !slices.Equal(got, c.want) {
			t.Errorf("case %d: %v, want %v", i, got, c.want)
		}
		back := Diff(c.b, a)
		for k, x := range back {
			x.How = map[byte]byte{Added: Removed, Removed: Added, Changed: Changed}[x.How]
			back[k] = x
		}
		if !slices.Equal(back, c.want) {
			t.Errorf("case %d, the other way: %v", i, back)
		}
	}
	if got := Diff(api.DB{}, api.DB{Fixes: []api.Fix{}}); len(got) != 0 {
		t.Errorf("of nothing: %v", got)
	}
	// Databases that are not valid: of several elements with one key the first one counts; nil and empty lists are equal.
	x := api.DB{Fixes: []api.Fix{{Ident: "A", Elev: 1}, {Ident: "A", Elev: 2}}, Airways: []api.Airway{{}}, Procedures: []api.Procedure{{Kind: 0}, {Kind: 9, Parts: []api.Part{{}}}}}
	y := api.DB{Fixes: []api.Fix{{Ident: "A", Elev: 1}}, Airways: []api.Airway{{Points: []api.AirwayPoint{}}}, Procedures: []api.Procedure{{Kind: 0, Parts: []api.Part{}}}}
	if got := Diff(x, y); len(got) != 0 {
		t.Errorf("of first elements: %v", got)
	}
	y.Procedures[0].Kind = 7
	x.Procedures = x.Procedures[:1]
	if got := Diff(x, y); !slices.Equal(got, []api.Change{change(4, Changed, "NONE  ")}) {
		t.Errorf("of other kinds: %v", got)
	}
}

func plan() api.Plan {
	entry := func(text, via string) api.Entry {
		l, _, e := leg.Parse(text)
		if e != api.OK {
			panic(text)
		}
		return api.Entry{Leg: l, Via: via}
	}
	return api.Plan{Entries: []api.Entry{entry("IF A/K1", ""), entry("TF B/K1", "V1"), {Gap: true}, entry("DF C/K1", "D1"), entry("RF B/K1 @A/K1 L r5", "D1.BTG"), entry("CA 000000000 5000", "V2")}}
}

// P20.2
func TestAffected(t *testing.T) {
	for i, c := range []struct {
		l    []api.Change
		want []int
	}{
		{nil, nil},
		{[]api.Change{change(1, Changed, "DATABASE")}, []int{0, 1, 3, 4, 5}},
		{[]api.Change{change(2, Changed, "A/K1")}, []int{0, 4}},
		{[]api.Change{change(2, Added, "B/K1"), change(3, Removed, "AIRWAY V2")}, []int{1, 4, 5}},
		{[]api.Change{change(3, Changed, "AIRWAY V1")}, []int{1}},
		{[]api.Change{change(4, Changed, "DEPARTURE KSEA D1")}, []int{3}},
		{[]api.Change{change(4, Changed, "D1.BTG")}, []int{4}},
		{[]api.Change{change(2, Changed, "V1"), change(3, Changed, "A/K1"), change(9, Changed, "V1")}, nil},
		{[]api.Change{change(3, Changed, "AIRWAY V1 ")}, []int{0}},
	} {
		if got := Affected(plan(), c.l); !slices.Equal(got, c.want) {
			t.Errorf("case %d: %v, want %v", i, got, c.want)
		}
	}
}

// P20.3
func TestSame(t *testing.T) {
	p := plan()
	a := compiled(t)
	for i, b := range []api.DB{a, compiled(t, "2612", "2613"), compiled(t, "432.50", "5"), compiled(t, "WAYPOINT B K1 N463", "WAYPOINT B K1 N462"), compiled(t, "WAYPOINT B", "WAYPOINT C K1 N46000000W120000000\nWAYPOINT B"), compiled(t, "N46000000W120000000", "N46000001W120000000")} {
		want := i < 3
		if Same(p, a, b) != want || Same(p, b, a) != want {
			t.Errorf("case %d: %v", i, !want)
		}
		if len(Affected(p, Diff(a, b))) == 0 && !want {
			t.Errorf("case %d: not affected", i)
		}
	}
	p.Entries = p.Entries[5:]
	if !Same(p, a, compiled(t, "WAYPOINT B K1 N463", "WAYPOINT B K1 N462")) || !Same(api.Plan{Entries: []api.Entry{{Gap: true, Leg: api.Leg{Fix: "B/K1"}}}}, a, api.DB{}) {
		t.Errorf("a plan without fixes")
	}
	// Only the center of an arc has moved.
	arc := plan()
	arc.Entries = arc.Entries[4:5]
	if Same(arc, a, compiled(t, "WAYPOINT A K1 N46000000", "WAYPOINT A K1 N46000001")) {
		t.Errorf("a center has moved")
	}
}

func imageOf(t *testing.T, changes ...string) []byte {
	t.Helper()
	p, e := image.Encode(compiled(t, changes...))
	if e != api.OK {
		t.Fatal(e)
	}
	return p
}

// P20.4, P20.5, P20.6
func TestStore(t *testing.T) {
	s := New()
	if _, e := s.Active(); e != api.ErrNone {
		t.Errorf("Active of nothing: %v", e)
	}
	if _, e := s.Standby(); e != api.ErrNone || s.Swap(9840) != api.ErrNone || s.Effective(9840) || s.Due(9840) || s.Text(9840) != "NONE\nNONE\n" {
		t.Errorf("a new store: %v", e)
	}
	if s.Load(make([]byte, 3)) != api.ErrForm || s.Load(make([]byte, 5)) != api.ErrSum {
		t.Errorf("Load of no image")
	}
	first := imageOf(t)
	if e := s.Load(first); e != api.OK {
		t.Fatal(e)
	}
	if s.Swap(9825) != api.ErrCycle || s.Swap(9854) != api.ErrCycle || s.Due(9825) || !s.Due(9826) || !s.Due(9853) || s.Due(9854) || s.Effective(9840) {
		t.Errorf("the days of the standby")
	}
	if db, e := s.Standby(); e != api.OK || !reflect.DeepEqual(db, compiled(t)) {
		t.Errorf("Standby: %v", e)
	}
	if e := s.Load(imageOf(t, "432.50", "7")); e != api.OK {
		t.Errorf("Load in the place of the standby: %v", e)
	}
	if db, _ := s.Standby(); !reflect.DeepEqual(db, compiled(t, "432.50", "7")) {
		t.Errorf("the standby is not replaced")
	}
	if e := s.Load(first); e != api.OK {
		t.Errorf("Load: %v", e)
	}
	if e := s.Swap(9840); e != api.OK || !s.Effective(9826) || !s.Effective(9853) || s.Effective(9825) || s.Effective(9854) || s.Due(9840) {
		t.Errorf("Swap: %v", e)
	}
	if s.Load(first) != api.ErrExists || s.Swap(9840) != api.ErrNone || s.Text(9840) != "WEST 2612 2026-11-26 2026-12-23 EFFECTIVE\nNONE\n" {
		t.Errorf("behind the first swap: %q", s.Text(9840))
	}
	if db, e := s.Active(); e != api.OK || !reflect.DeepEqual(db, compiled(t)) {
		t.Errorf("Active: %v", e)
	}
	if e := s.Load(imageOf(t, "2612", "2613", "WEST", "EAST")); e != api.OK {
		t.Errorf("Load of the next cycle: %v", e)
	}
	if s.Text(9853) != "WEST 2612 2026-11-26 2026-12-23 EFFECTIVE\nEAST 2613 2026-12-24 2027-01-20 EARLY\n" || s.Text(9854) != "WEST 2612 2026-11-26 2026-12-23 EXPIRED\nEAST 2613 2026-12-24 2027-01-20 EFFECTIVE\n" {
		t.Errorf("Text: %q, %q", s.Text(9853), s.Text(9854))
	}
	if s.Swap(9853) != api.ErrCycle || s.Due(9853) || !s.Due(9854) || s.Swap(9854) != api.OK {
		t.Errorf("the second swap")
	}
	if h, _ := s.Standby(); h.Header.Name != "WEST" || s.Load(first) != api.OK || s.Swap(9860) != api.ErrCycle {
		t.Errorf("the old one is the standby: %v", h.Header)
	}
	for day := int64(9820); day < 9900; day++ {
		x, _ := s.Active()
		y, _ := s.Standby()
		if x.Header.From <= day && day < x.Header.To && y.Header.From <= day && day < y.Header.To {
			t.Errorf("both are effective on day %d", day)
		}
	}
}

// P20.7: the last cycle ends beyond the calendar.
func TestTextEnd(t *testing.T) {
	s := New()
	if e := s.Load(imageOf(t, "2612", "9913")); e != api.OK {
		t.Fatal(e)
	}
	if got := s.Text(0); got != "NONE\nWEST 9913 2099-12-17 - EARLY\n" {
		t.Errorf("%q", got)
	}
}

// P20.6: what is shown shares no memory; clones are independent; nil.
func TestMemory(t *testing.T) {
	s := New()
	p := imageOf(t)
	keep := bytes.Clone(p)
	s.Load(p)
	s.Swap(9840)
	s.Load(imageOf(t, "2612", "2613"))
	a, _ := s.Active()
	b, _ := s.Standby()
	for _, db := range []api.DB{a, b} {
		db.Fixes[0].Ident = "X"
		db.Airways[0].Points[0].Ref = "X"
		db.Airways[1].Name = "X"
		db.Procedures[0].Parts[0].Legs[0].Fix = "X"
		db.Procedures[1].Parts[0].Name = "X"
		db.Procedures[2].Name = "X"
	}
	a, _ = s.Active()
	b, _ = s.Standby()
	if !reflect.DeepEqual(a, compiled(t)) || !reflect.DeepEqual(b, compiled(t, "2612", "2613")) || !bytes.Equal(p, keep) {
		t.Errorf("the databases share memory")
	}
	c := s.Clone()
	text := s.Text(9840)
	c.Swap(9860)
	if s.Text(9840) != text || c.Text(9840) == text {
		t.Errorf("clones are not independent")
	}
	d := s.Clone()
	s.Swap(9860)
	if d.Text(9840) != text {
		t.Errorf("clones are not independent")
	}
	var none *Store
	_, e := none.Active()
	_, f := none.Standby()
	if none.Load(p) != api.ErrArg || none.Swap(9840) != api.ErrArg || e != api.ErrArg || f != api.ErrArg || none.Effective(9840) || none.Due(9840) || none.Text(9840) != "" || none.Clone() != nil {
		t.Errorf("nil")
	}
}
