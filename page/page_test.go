package page

import (
	"math"
	"slices"
	"strings"
	"testing"

	"flightdeck/api"
)

func legEntry(kind api.LegType, fix string) api.Entry {
	return api.Entry{Leg: api.Leg{Type: kind, Fix: fix, Alt: api.Window{Lo: api.MinAlt, Hi: api.MaxAlt}}, Section: api.SecEnroute}
}

// view has a plan of seven entries: legs at fixes, a gap at 3, and a leg without a fix at 5.
func view() api.View {
	p := api.Plan{From: "KAAA", To: "KBBB", Active: 1, Entries: []api.Entry{
		legEntry(api.IF, "A/K1"), legEntry(api.TF, "B/K1"), legEntry(api.FM, "C/K1"), {Gap: true}, legEntry(api.IF, "D/K1"), legEntry(api.CA, ""), legEntry(api.DF, "E/K1"),
	}}
	p.Entries[1].Leg.Alt = api.Window{Lo: 500_000, Hi: 900_000}
	p.Entries[1].Leg.Speed = 250
	p.Entries[1].Via = "V23"
	return api.View{Active: p}
}

// P58.1
func TestKeys(t *testing.T) {
	if Start() != (api.Terminal{Page: api.LegsPage}) {
		t.Errorf("Start: %v", Start())
	}
	want := strings.Split("A B C D E F G H I J K L M N O P Q R S T U V W X Y Z 0 1 2 3 4 5 6 7 8 9 / . : + - CLR UP DOWN LEGS DIR PROG MSG EXEC ERASE UNDO L1 L2 L3 L4 L5 R1 R2 R3 R4 R5", " ")
	got := Keys()
	if !slices.Equal(got, want) {
		t.Errorf("%v", got)
	}
	got[0] = "X"
	if Keys()[0] != "A" {
		t.Errorf("the keys share memory")
	}
}

// P58.2: what is no key, and no terminal
func TestPressErrors(t *testing.T) {
	for _, key := range []string{"", "a", "AA", "L0", "L6", "R6", "L1 ", "CLEAR", "*", " ", "\xC3"} {
		if after, command, e := Press(Start(), view(), key); after != Start() || command != "" || e != api.ErrArg {
			t.Errorf("%q: %v", key, e)
		}
	}
	for i, x := range []api.Terminal{{Page: 0}, {Page: 5}, {Page: -1}, {Page: 1, First: -1}, {Page: 1, First: 1_000_001}, {Page: 1, First: math.MinInt}, {Page: 1, Pad: strings.Repeat("A", 25)}} {
		for _, key := range Keys() {
			if after, command, e := Press(x, view(), key); after != x || command != "" || e != api.ErrArg {
				t.Errorf("terminal %d, %s: %v", i, key, e)
			}
		}
	}
}

// P58.2
func TestPress(t *testing.T) {
	full := strings.Repeat("A", 24)
	temp := view()
	temp.HasTemp = true
	temp.Temp = api.Plan{Active: -1, Entries: slices.Repeat([]api.Entry{legEntry(api.TF, "T/K1")}, 10)}
	alerts := view()
	alerts.Alerts = []string{"FUEL LOW"}
	huge := view()
	huge.Active.Entries = slices.Repeat(huge.Active.Entries[:1], 70)
	odd := view()
	odd.Active.Entries[0].Leg.Alt = api.Window{Lo: 5, Hi: 4}
	none := api.View{}
	for i, c := range []struct {
		page, first int
		pad         string
		v           api.View
		key         string
		want        api.Terminal
		command     string
		e           api.Errno
	}{
		{1, 0, "", view(), "A", api.Terminal{Page: 1, Pad: "A"}, "", api.OK}, {2, 5, "AB", view(), "/", api.Terminal{Page: 2, First: 5, Pad: "AB/"}, "", api.OK}, {1, 0, "DELETE", view(), "9", api.Terminal{Page: 1, Pad: "9"}, "", api.OK}, {1, 0, full, view(), "-", api.Terminal{}, "", api.ErrFull}, {1, 0, full[1:], view(), "-", api.Terminal{Page: 1, Pad: full[1:] + "-"}, "", api.OK},
		{1, 0, "AB", view(), "CLR", api.Terminal{Page: 1, Pad: "A"}, "", api.OK}, {1, 0, "", view(), "CLR", api.Terminal{Page: 1, Pad: "DELETE"}, "", api.OK}, {1, 0, "DELETE", view(), "CLR", api.Terminal{Page: 1}, "", api.OK}, {1, 0, "DELETED", view(), "CLR", api.Terminal{Page: 1, Pad: "DELETE"}, "", api.OK},
		{3, 5, "X", view(), "LEGS", api.Terminal{Page: 1, Pad: "X"}, "", api.OK}, {1, 5, "X", view(), "DIR", api.Terminal{Page: 2, Pad: "X"}, "", api.OK}, {1, 5, "X", view(), "PROG", api.Terminal{Page: 3, Pad: "X"}, "", api.OK}, {1, 5, "X", view(), "MSG", api.Terminal{Page: 4, Pad: "X"}, "", api.OK},
		{1, 0, "X", view(), "DOWN", api.Terminal{Page: 1, First: 5, Pad: "X"}, "", api.OK}, {1, 5, "", view(), "DOWN", api.Terminal{}, "", api.ErrNone}, {1, 2, "", view(), "DOWN", api.Terminal{}, "", api.ErrNone}, {1, 1, "", view(), "DOWN", api.Terminal{Page: 1, First: 6}, "", api.OK}, {1, 0, "", temp, "DOWN", api.Terminal{Page: 1, First: 5}, "", api.OK}, {1, 4, "", temp, "DOWN", api.Terminal{Page: 1, First: 9}, "", api.OK}, {1, 5, "", temp, "DOWN", api.Terminal{}, "", api.ErrNone}, {4, 5, "", none, "UP", api.Terminal{Page: 4}, "", api.OK}, {1, 4, "", view(), "UP", api.Terminal{}, "", api.ErrNone}, {1, 1_000_000, "", none, "UP", api.Terminal{Page: 1, First: 999_995}, "", api.OK}, {1, 0, "", none, "DOWN", api.Terminal{}, "", api.ErrNone},
		{3, 0, "X", view(), "EXEC", api.Terminal{}, "", api.ErrState}, {3, 0, "X", temp, "EXEC", api.Terminal{Page: 3, Pad: "X"}, "EXEC", api.OK}, {3, 0, "X", view(), "ERASE", api.Terminal{}, "", api.ErrState}, {3, 0, "X", temp, "ERASE", api.Terminal{Page: 3, Pad: "X"}, "ERASE", api.OK}, {3, 0, "X", view(), "UNDO", api.Terminal{Page: 3, Pad: "X"}, "UNDO", api.OK},
		{1, 0, "", view(), "L2", api.Terminal{Page: 1, Pad: "B/K1"}, "", api.OK}, {1, 0, "", view(), "L3", api.Terminal{}, "", api.ErrNone}, {1, 0, "", view(), "L4", api.Terminal{}, "", api.ErrNone}, {1, 5, "", view(), "L1", api.Terminal{}, "", api.ErrNone}, {1, 5, "", view(), "L2", api.Terminal{Page: 1, First: 5, Pad: "E/K1"}, "", api.OK}, {1, 5, "", view(), "L3", api.Terminal{}, "", api.ErrNone}, {1, 0, "", temp, "L2", api.Terminal{Page: 1, Pad: "T/K1"}, "", api.OK}, {1, 1_000_000, "", view(), "L5", api.Terminal{}, "", api.ErrNone},
		{1, 0, "DELETE", view(), "L4", api.Terminal{Page: 1}, "EDIT DELETE 3", api.OK}, {1, 5, "DELETE", view(), "L2", api.Terminal{Page: 1, First: 5}, "EDIT DELETE 6", api.OK}, {1, 5, "DELETE", view(), "L3", api.Terminal{}, "", api.ErrNone}, {1, 60, "DELETE", huge, "L1", api.Terminal{Page: 1, First: 60}, "EDIT DELETE 60", api.OK}, {1, 60, "DELETE", huge, "L2", api.Terminal{}, "", api.ErrLimit},
		{1, 0, "A/00", view(), "L2", api.Terminal{Page: 1}, "EDIT INSERT 1 A/00", api.OK}, {1, 5, "A/K1", view(), "L3", api.Terminal{Page: 1, First: 5}, "EDIT INSERT 7 A/K1", api.OK}, {1, 5, "A/K1", view(), "L4", api.Terminal{}, "", api.ErrNone}, {1, 5, "A", view(), "L4", api.Terminal{}, "", api.ErrNone}, {1, 0, "A", view(), "L2", api.Terminal{}, "", api.ErrForm}, {1, 0, "A/K1/", view(), "L2", api.Terminal{}, "", api.ErrForm}, {1, 60, "A/K1", huge, "L2", api.Terminal{}, "", api.ErrLimit}, {1, 60, "A", huge, "L2", api.Terminal{}, "", api.ErrForm}, {1, 0, "A/K1", temp, "L1", api.Terminal{Page: 1}, "EDIT INSERT 0 A/K1", api.OK},
		{1, 0, "", view(), "R1", api.Terminal{Page: 1, Pad: "-"}, "", api.OK}, {1, 0, "", view(), "R2", api.Terminal{Page: 1, Pad: "5000:9000"}, "", api.OK}, {1, 0, "", view(), "R4", api.Terminal{}, "", api.ErrNone}, {1, 5, "", view(), "R1", api.Terminal{Page: 1, First: 5, Pad: "-"}, "", api.OK}, {1, 5, "", view(), "R3", api.Terminal{}, "", api.ErrNone}, {1, 0, "", odd, "R1", api.Terminal{Page: 1}, "", api.OK},
		{1, 0, "-", view(), "R1", api.Terminal{Page: 1}, "EDIT ALT 0 -", api.OK}, {1, 0, "5000+", view(), "R3", api.Terminal{Page: 1}, "EDIT ALT 2 5000+", api.OK}, {1, 0, "DELETE", view(), "R3", api.Terminal{}, "", api.ErrForm}, {1, 0, "9000:5000", view(), "R3", api.Terminal{}, "", api.ErrForm}, {1, 0, "X", view(), "R4", api.Terminal{}, "", api.ErrNone}, {1, 60, "-", huge, "R1", api.Terminal{Page: 1, First: 60}, "EDIT ALT 60 -", api.OK}, {1, 60, "-", huge, "R2", api.Terminal{}, "", api.ErrLimit}, {1, 60, "X", huge, "R2", api.Terminal{}, "", api.ErrForm},
		{1, 0, "/250", view(), "R2", api.Terminal{Page: 1}, "EDIT SPD 1 250", api.OK}, {1, 0, "/0", view(), "R2", api.Terminal{Page: 1}, "EDIT SPD 1 0", api.OK}, {1, 0, "/", view(), "R2", api.Terminal{}, "", api.ErrForm}, {1, 0, "/1001", view(), "R2", api.Terminal{}, "", api.ErrForm}, {1, 0, "/-5", view(), "R2", api.Terminal{}, "", api.ErrForm}, {1, 0, "/250", view(), "R4", api.Terminal{}, "", api.ErrNone}, {1, 60, "/250", huge, "R2", api.Terminal{}, "", api.ErrLimit},
		{2, 0, "", view(), "L2", api.Terminal{Page: 2}, "EDIT DIRECT 1", api.OK}, {2, 5, "", view(), "L2", api.Terminal{Page: 2, First: 5}, "EDIT DIRECT 6", api.OK}, {2, 0, "X", view(), "L3", api.Terminal{}, "", api.ErrNone}, {2, 0, "X", view(), "L4", api.Terminal{}, "", api.ErrNone}, {2, 0, "X", view(), "L2", api.Terminal{}, "", api.ErrForm}, {2, 0, "DELETE", view(), "L2", api.Terminal{}, "", api.ErrForm}, {2, 60, "", huge, "L2", api.Terminal{}, "", api.ErrLimit}, {2, 5, "", view(), "L3", api.Terminal{}, "", api.ErrNone}, {2, 0, "", view(), "R2", api.Terminal{}, "", api.ErrNone},
		{4, 0, "X", alerts, "L1", api.Terminal{Page: 4, Pad: "X"}, "ACK", api.OK}, {4, 0, "", view(), "L1", api.Terminal{}, "", api.ErrNone}, {4, 0, "", alerts, "L2", api.Terminal{}, "", api.ErrNone}, {4, 0, "", alerts, "R1", api.Terminal{}, "", api.ErrNone}, {3, 0, "", alerts, "L1", api.Terminal{}, "", api.ErrNone}, {3, 0, "", alerts, "R5", api.Terminal{}, "", api.ErrNone},
	} {
		before := api.Terminal{Page: c.page, First: c.first, Pad: c.pad}
		if c.e != api.OK {
			c.want = before
		}
		after, command, e := Press(before, c.v, c.key)
		if after != c.want || command != c.command || e != c.e {
			t.Errorf("case %d: %s: %v, %q, %v", i, c.key, after, command, e)
		}
	}
}

// P58.2: the example
func TestExample(t *testing.T) {
	v := api.View{Active: api.Plan{Entries: []api.Entry{legEntry(api.IF, "A/K1"), legEntry(api.TF, "B/K1"), legEntry(api.TF, "C/K1")}, Active: -1}}
	x := Start()
	var sent []string
	for _, key := range []string{"A", "/", "0", "0", "L2", "R1", "R1"} {
		after, command, e := Press(x, v, key)
		if e != api.OK {
			t.Fatalf("%s: %v", key, e)
		}
		if command != "" {
			sent = append(sent, command)
		}
		x = after
	}
	if !slices.Equal(sent, []string{"EDIT INSERT 1 A/00", "EDIT ALT 0 -"}) || x != Start() {
		t.Errorf("%q, %v", sent, x)
	}
}

// P58.3: lines
func TestLine(t *testing.T) {
	x24, x23 := strings.Repeat("x", 24), strings.Repeat("x", 23)
	blank := strings.Repeat(" ", 24)
	for i, c := range [][3]string{
		{"", "", blank}, {"AB", "CD", "AB" + blank[:20] + "CD"}, {x23, "", x23 + " "}, {x24, "", x23 + " "}, {"", x24, x24}, {"", x24 + "y", x24}, {"A", x24, x24}, {"A", x24 + "y", x24}, {"A", x23, " " + x23}, {"ABC", x23[1:], "A " + x23[1:]}, {x24, "CD", x23[2:] + " CD"}, {x23[:20], "CDE", x23[:20] + " CDE"}, {x23[:21], "CDE", x23[:20] + " CDE"},
		{"A\nB", "\x1F\x7F~\xC3", "A?B" + blank[:17] + "??~?"}, {x23[1:] + "\xC3\xA4", "", x23[1:] + "? "},
	} {
		if got := line(c[0], c[1]); got != c[2] || len(got) != 24 {
			t.Errorf("case %d: %q", i, got)
		}
	}
}

// render returns the lines with the blanks between the texts cut to one.
func render(t *testing.T, x api.Terminal, v api.View) []string {
	t.Helper()
	lines := Render(x, v)
	if len(lines) != 14 {
		t.Fatalf("%d lines", len(lines))
	}
	for i, l := range lines {
		if len(l) != 24 {
			t.Errorf("line %d: %q", i, l)
		}
		lines[i] = strings.Join(strings.Fields(l), " ")
	}
	return lines
}

// P58.3
func TestRender(t *testing.T) {
	v := view()
	v.Targets = api.Targets{Lateral: api.LatNav, Vertical: api.VertPath, Phase: api.PhaseCruise, Bank: -120, Alt: 1_234_500}
	v.Alerts = []string{"FUEL LOW", "DISCONTINUITY"}
	v.Last = api.ErrForm
	v.Estimate = api.Estimate{Point: api.Point{X: -5, Y: 70}, LevelX: 20, LevelY: 30, Usable: true}
	v.Required, v.Left = 6000, 12_500
	legs := []string{"IF", "A/K1 -", "TF < V23", "B/K1 5000:9000/250", "FM", "C/K1 -", "", "- - - - GAP", "IF", "D/K1 -"}
	tail := []string{"NAV PATH CRUISE", "FUEL LOW E4", "[AB]"}
	temp := v
	temp.HasTemp = true
	temp.Temp = api.Plan{Active: 0, Entries: []api.Entry{legEntry(api.TF, "T/K1")}}
	temp.Temp.Entries[0].Leg.Alt = api.Window{Lo: 3, Hi: 2}
	temp.Temp.Entries[0].Leg.Speed = 99
	bad := v
	bad.Left, bad.Targets.Alt, bad.Active.Active, bad.Estimate.Excluded, bad.Estimate.Usable = -1, api.MaxAlt+1, 3, 7, false
	many := v
	many.Alerts = strings.Fields("A B C D E F G H I J K L")
	plain := api.View{Active: api.Plan{Active: -1}}
	nothing := make([]string, 10)
	body := func(l ...string) []string { return append(l, nothing[len(l):]...) }
	for i, c := range []struct {
		x     api.Terminal
		v     api.View
		title string
		body  []string
		tail  []string
	}{
		{api.Terminal{Page: 1, Pad: "AB"}, v, "ACT LEGS 1/2", legs, tail}, {api.Terminal{Page: 2, Pad: "AB"}, v, "ACT DIR 1/2", legs, tail}, {api.Terminal{Page: 1, First: -3, Pad: "AB"}, v, "ACT LEGS 1/2", legs, tail},
		{api.Terminal{Page: 1, First: 5, Pad: "AB"}, v, "ACT LEGS 2/2", body("CA", "(CA) -", "DF", "E/K1 -"), tail}, {api.Terminal{Page: 1, First: 9, Pad: "AB"}, v, "ACT LEGS 2/2", nothing, tail}, {api.Terminal{Page: 1, First: math.MaxInt, Pad: "AB"}, v, "AC 1844674407370955162/2", nothing, tail},
		{api.Terminal{Page: 1, Pad: "AB"}, temp, "MOD LEGS 1/1", body("TF <", "T/K1 -/99"), tail},
		{api.Terminal{Page: 3, Pad: "AB"}, temp, "MOD PROG 1/1", []string{"TO B/K1", "LEFT 2+500", "X -5", "Y 70", "LEVELS 20 30", "REQUIRED 6000", "USABLE YES", "EXCLUDED NONE", "BANK -120", "ALT 12345"}, tail},
		{api.Terminal{Page: 3, Pad: "AB"}, bad, "ACT PROG 1/2", []string{"TO", "LEFT", "X -5", "Y 70", "LEVELS 20 30", "REQUIRED 6000", "USABLE NO", "EXCLUDED 7", "BANK -120", "ALT"}, tail},
		{api.Terminal{Page: 4, Pad: "AB"}, v, "ACT MSG 1/2", body("FUEL LOW", "DISCONTINUITY"), tail}, {api.Terminal{Page: 4}, many, "ACT MSG 1/2", many.Alerts[:10], []string{"NAV PATH CRUISE", "A E4", "[]"}},
		{api.Terminal{Page: 5, First: 7}, v, "ACT 2/2", nothing, []string{"NAV PATH CRUISE", "FUEL LOW E4", "[]"}}, {api.Terminal{Page: -9}, plain, "ACT 1/1", nothing, []string{"", "", "[]"}}, {api.Terminal{Page: 1, Pad: strings.Repeat("Z", 30)}, plain, "ACT LEGS 1/1", nothing, []string{"", "", "[" + strings.Repeat("Z", 22)}},
	} {
		want := slices.Concat([]string{c.title}, c.body, c.tail)
		if got := render(t, c.x, c.v); !slices.Equal(got, want) {
			t.Errorf("case %d:\n%q\n%q", i, got, want)
		}
	}
	lines := Render(api.Terminal{Page: 1, Pad: "AB"}, v)
	for i, want := range map[int]string{0: "ACT LEGS             1/2", 3: "TF <                 V23", 4: "B/K1       5000:9000/250", 8: "- - - -              GAP", 11: "NAV PATH CRUISE         ", 12: "FUEL LOW              E4", 13: "[AB]                    "} {
		if lines[i] != want {
			t.Errorf("line %d: %q", i, lines[i])
		}
	}
}
