package chart

import (
	"fmt"
	"math"
	"reflect"
	"slices"
	"strings"
	"testing"

	"flightdeck/api"
)

const lamp = `CHART LAMP OFF
CONDITION KEY
STATE OFF - -
STATE ON - LOW HISTORY
STATE LOW ON -
ENTRY DIM
STATE HIGH ON -
TRANSITION OFF ON
WHEN KEY
TRANSITION OFF OFF
WHEN !KEY
TRANSITION ON OFF
WHEN KEY
TRANSITION LOW HIGH
WHEN !KEY
TRANSITION HIGH LOW
WHEN !KEY
`

// deep has three levels, history on two of them, and actions everywhere.
const deep = `CHART DEEP B
CONDITION X
CONDITION Y
CONDITION Z
NEVER X Y
NEVER !X Y !Z
STATE TOP - A HISTORY
ENTRY ETOP
EXIT XTOP
STATE A TOP A1 HISTORY
ENTRY EA1 EA2
EXIT XA
STATE A1 A -
ENTRY EAA
EXIT XA1
STATE A2 A -
EXIT XA2
STATE B TOP B1
ENTRY EB
EXIT XB
STATE B1 B -
STATE B2 B -
ENTRY EB2
STATE OUT - -
ENTRY EOUT
TRANSITION B A
WHEN X !Z
DO T0 T00
TRANSITION A1 A2
WHEN X Z
DO T1
TRANSITION TOP OUT
WHEN Y
DO T2
TRANSITION OUT TOP
WHEN X
TRANSITION OUT A
WHEN !X
TRANSITION A2 A2
WHEN X Z
DO T5
TRANSITION A2 A
WHEN !X !Y Z
TRANSITION A TOP
WHEN X !Z
DO T7
TRANSITION B1 B2
WHEN !X !Y
TRANSITION B2 B1
WHEN X Z
TRANSITION A B2
WHEN !X !Y !Z
`

func parsed(t *testing.T, src string) api.Chart {
	t.Helper()
	c, diags := Parse(src)
	if len(diags) > 0 {
		t.Fatal(diags)
	}
	return c
}

// P47.1
func TestCheck(t *testing.T) {
	lit := func(l ...int) (w []api.Literal) {
		for _, x := range l {
			w = append(w, api.Literal{Cond: x})
		}
		return w
	}
	nine := slices.Repeat([]string{"A"}, 9)
	for i, c := range []struct {
		change func(c *api.Chart)
		want   api.Errno
	}{
		{func(c *api.Chart) {}, api.OK},
		{func(c *api.Chart) { c.Name = ""; c.States = nil }, api.ErrName}, {func(c *api.Chart) { c.Name = "ABCDEFGHI" }, api.ErrName}, {func(c *api.Chart) { c.Name = "ABCDEFGH" }, api.OK},
		{func(c *api.Chart) { c.States = nil; c.Conds = make([]string, 13) }, api.ErrNone},
		{func(c *api.Chart) { c.Conds = make([]string, 13) }, api.ErrLimit}, {func(c *api.Chart) { c.Never = make([][]api.Literal, 17) }, api.ErrLimit}, {func(c *api.Chart) { c.States = make([]api.ChartState, 41) }, api.ErrLimit}, {func(c *api.Chart) { c.Transitions = make([]api.Transition, 121); c.Conds[0] = "x" }, api.ErrLimit},
		{func(c *api.Chart) { c.Conds[1] = "x"; c.Never[0] = nil }, api.ErrName}, {func(c *api.Chart) { c.Conds[1] = "ABCDEFGHI" }, api.ErrName}, {func(c *api.Chart) { c.Conds[2] = "X"; c.Never[0] = nil }, api.ErrExists},
		{func(c *api.Chart) { c.Never[1] = nil; c.States[0].Name = "x" }, api.ErrArg}, {func(c *api.Chart) { c.Never[1] = lit(3) }, api.ErrRange}, {func(c *api.Chart) { c.Never[1] = lit(-1) }, api.ErrRange}, {func(c *api.Chart) { c.Never[1] = lit(1, 1) }, api.ErrOrder}, {func(c *api.Chart) { c.Never[1] = lit(1, 0); c.States[0].Name = "x" }, api.ErrOrder}, {func(c *api.Chart) { c.Never[1] = lit(0, 1, 2) }, api.OK},
		{func(c *api.Chart) { c.States[1].Name = "x" }, api.ErrName}, {func(c *api.Chart) { c.States[7].Name = "TOP"; c.States[7].Parent = 7 }, api.ErrExists},
		{func(c *api.Chart) { c.States[7].Parent = 7; c.States[7].Initial = 99 }, api.ErrOrder}, {func(c *api.Chart) { c.States[7].Parent = 8 }, api.ErrOrder}, {func(c *api.Chart) { c.States[7].Parent = -2 }, api.ErrOrder},
		{func(c *api.Chart) { c.States[1].Initial = 4; c.States[1].Entry = nine }, api.ErrRange}, {func(c *api.Chart) { c.States[1].Initial = -1 }, api.ErrRange}, {func(c *api.Chart) { c.States[1].Initial = 99 }, api.ErrRange}, {func(c *api.Chart) { c.States[2].Initial = 0; c.States[2].History = true }, api.ErrRange},
		{func(c *api.Chart) { c.States[2].History = true; c.States[2].Entry = nine }, api.ErrType}, {func(c *api.Chart) { c.States[2].Entry = nine; c.States[2].Exit = []string{"x"} }, api.ErrLimit}, {func(c *api.Chart) { c.States[2].Entry = []string{"A", "x"}; c.States[2].Exit = nine }, api.ErrName}, {func(c *api.Chart) { c.States[2].Exit = nine; c.Start = 99 }, api.ErrLimit}, {func(c *api.Chart) { c.States[2].Exit = []string{""} }, api.ErrName}, {func(c *api.Chart) { c.States[2].Entry = nine[:8] }, api.OK},
		{func(c *api.Chart) { c.Start = 8; c.Transitions[0].From = -1 }, api.ErrRange}, {func(c *api.Chart) { c.Start = -1 }, api.ErrRange},
		{func(c *api.Chart) { c.Transitions[1].From = 8; c.Transitions[1].When = lit(1, 0) }, api.ErrRange}, {func(c *api.Chart) { c.Transitions[1].To = -1 }, api.ErrRange}, {func(c *api.Chart) { c.Transitions[1].When = lit(1, 0); c.Transitions[1].Actions = nine }, api.ErrOrder}, {func(c *api.Chart) { c.Transitions[1].When = lit(3) }, api.ErrRange}, {func(c *api.Chart) { c.Transitions[1].Actions = nine }, api.ErrLimit}, {func(c *api.Chart) { c.Transitions[1].Actions = []string{"!"} }, api.ErrName},
	} {
		ch := parsed(t, deep)
		c.change(&ch)
		if e := Check(ch); e != c.want {
			t.Errorf("case %d: %v, want %v", i, e, c.want)
		}
		if s, e := Text(ch); e != c.want || (s == "") != (c.want != api.OK) {
			t.Errorf("case %d: Text %v", i, e)
		}
		if c.want == api.OK {
			continue
		}
		g, a, e1 := Start(ch)
		h, b, e2 := Fire(ch, api.Config{Leaf: -1}, -1)
		k, d, e3 := Step(ch, api.Config{Leaf: -1}, 0xFFFF)
		l, f, e4 := Run(ch, nil)
		if !reflect.DeepEqual([]api.Config{g, h, k}, make([]api.Config, 3)) || len(a)+len(b)+len(d)+len(l)+len(f) > 0 || e1 != c.want || e2 != c.want || e3 != c.want || e4 != c.want {
			t.Errorf("case %d: %v, %v, %v, %v", i, e1, e2, e3, e4)
		}
	}
}

// P47.2
func TestStructure(t *testing.T) {
	c := parsed(t, deep)
	if got := Leaves(c); !slices.Equal(got, []int{2, 3, 5, 6, 7}) {
		t.Errorf("Leaves: %v", got)
	}
	for state, want := range map[int][]int{0: {0}, 2: {2, 1, 0}, 6: {6, 4, 0}, 7: {7}, -1: nil, 8: nil, math.MaxInt: nil} {
		if got := Path(c, state); !slices.Equal(got, want) {
			t.Errorf("Path of %d: %v", state, got)
		}
	}
	odd := api.Chart{States: []api.ChartState{{Parent: 5}, {Parent: 1}, {Parent: 0}, {Parent: 9}, {Parent: -7}}}
	if got := Leaves(odd); !slices.Equal(got, []int{2, 3, 4}) {
		t.Errorf("Leaves: %v", got)
	}
	for state, want := range map[int][]int{0: {0}, 1: {1}, 2: {2, 0}, 3: {3}, 4: {4}} {
		if got := Path(odd, state); !slices.Equal(got, want) {
			t.Errorf("Path of %d: %v", state, got)
		}
	}
	if len(Leaves(api.Chart{})) != 0 {
		t.Errorf("no leaves")
	}
}

// P47.3
func TestConditions(t *testing.T) {
	for i, c := range []struct {
		l    []api.Literal
		v    uint16
		want bool
	}{
		{nil, 0, true}, {[]api.Literal{{Cond: 0}}, 1, true}, {[]api.Literal{{Cond: 0}}, 2, false}, {[]api.Literal{{Cond: 0, Neg: true}}, 1, false}, {[]api.Literal{{Cond: 0, Neg: true}}, 2, true}, {[]api.Literal{{Cond: 15}}, 1 << 15, true}, {[]api.Literal{{Cond: 16}}, 0xFFFF, false}, {[]api.Literal{{Cond: 16, Neg: true}}, 0, false}, {[]api.Literal{{Cond: -1, Neg: true}}, 0, false}, {[]api.Literal{{Cond: 3}, {Cond: 0, Neg: true}, {Cond: 3}}, 8, true}, {[]api.Literal{{Cond: 3}, {Cond: 0, Neg: true}}, 9, false}, {[]api.Literal{{Cond: math.MaxInt}}, 9, false},
	} {
		if Holds(c.l, c.v) != c.want {
			t.Errorf("case %d", i)
		}
	}
	d := parsed(t, deep)
	for v := range uint16(32) {
		x, y, z := v&1 == 1, v>>1&1 == 1, v>>2&1 == 1
		if want := v < 8 && !(x && y) && !(!x && y && !z); Allowed(d, v) != want {
			t.Errorf("Allowed(%d)", v)
		}
	}
	if Allowed(api.Chart{}, 1) || !Allowed(api.Chart{}, 0) || Allowed(api.Chart{Never: [][]api.Literal{nil}}, 0) || !Allowed(api.Chart{Conds: make([]string, 20)}, 0xFFFF) {
		t.Errorf("Allowed of charts that are not valid")
	}
	for _, c := range []struct {
		leaf int
		v    uint16
		want []int
	}{{5, 1, []int{0}}, {5, 0, []int{8}}, {2, 5, []int{1}}, {2, 1, []int{7}}, {2, 6, []int{2}}, {3, 4, []int{6}}, {3, 5, []int{5}}, {7, 1, []int{3}}, {0, 2, []int{2}}, {8, 1, nil}, {6, 1, []int{0}}, {2, 3, []int{2, 7}}} {
		if got := Enabled(d, c.leaf, c.v); !slices.Equal(got, c.want) {
			t.Errorf("Enabled(%d, %d) = %v", c.leaf, c.v, got)
		}
	}
}

func config(leaf int, memory ...int) api.Config { return api.Config{Leaf: leaf, Memory: memory} }

// P47.4
func TestValid(t *testing.T) {
	c := parsed(t, deep)
	for i, k := range []struct {
		g    api.Config
		want bool
	}{
		{config(5, -1, -1, -1, -1, -1, -1, -1, -1), true}, {config(7, 1, 3, -1, -1, -1, -1, -1, -1), true}, {config(7, 4, 2, -1, -1, -1, -1, -1, -1), true},
		{config(0, -1, -1, -1, -1, -1, -1, -1, -1), false}, {config(8, -1, -1, -1, -1, -1, -1, -1, -1), false}, {config(-1, -1, -1, -1, -1, -1, -1, -1, -1), false}, {config(5, -1, -1, -1, -1, -1, -1, -1), false}, {config(5), false},
		{config(5, -1, -1, -1, -1, 5, -1, -1, -1), false}, {config(5, 2, -1, -1, -1, -1, -1, -1, -1), false}, {config(5, -1, -1, -1, -1, -1, -1, -1, -2), false}, {config(5, 99, -1, -1, -1, -1, -1, -1, -1), false}, {config(5, -1, -1, 0, -1, -1, -1, -1, -1), false},
	} {
		if Valid(c, k.g) != k.want {
			t.Errorf("case %d", i)
		}
		if k.want {
			continue
		}
		if g, a, e := Fire(c, k.g, 99); g.Leaf != 0 || len(g.Memory)+len(a) > 0 || e != api.ErrState {
			t.Errorf("case %d: Fire %v, %v, %v", i, g, a, e)
		}
		if g, a, e := Step(c, k.g, 3); g.Leaf != 0 || len(g.Memory)+len(a) > 0 || e != api.ErrState {
			t.Errorf("case %d: Step %v, %v, %v", i, g, a, e)
		}
	}
	if Valid(api.Chart{}, api.Config{}) {
		t.Errorf("no states")
	}
}

// P47.5, P47.6: a walk through the deep chart.
func TestFire(t *testing.T) {
	c := parsed(t, deep)
	g, actions, e := Start(c)
	if !reflect.DeepEqual(g, config(5, -1, -1, -1, -1, -1, -1, -1, -1)) || !slices.Equal(actions, []string{"ETOP", "EB"}) || e != api.OK {
		t.Fatalf("Start: %v, %v, %v", g, actions, e)
	}
	for i, step := range []struct {
		transition int
		want       api.Config
		actions    string
	}{
		{8, config(6, -1, -1, -1, -1, -1, -1, -1, -1), "EB2"},
		{2, config(7, 4, -1, -1, -1, -1, -1, -1, -1), "XB XTOP T2 EOUT"},
		{3, config(5, -1, -1, -1, -1, -1, -1, -1, -1), "ETOP EB"}, // TOP enters B, which it left last
		{0, config(2, -1, -1, -1, -1, -1, -1, -1, -1), "XB T0 T00 EA1 EA2 EAA"},
		{1, config(3, -1, -1, -1, -1, -1, -1, -1, -1), "XA1 T1"},
		{5, config(3, -1, -1, -1, -1, -1, -1, -1, -1), "XA2 T5"}, // A2 to itself stays within A
		{2, config(7, 1, 3, -1, -1, -1, -1, -1, -1), "XA2 XA XTOP T2 EOUT"},
		{4, config(3, -1, -1, -1, -1, -1, -1, -1, -1), "ETOP EA1 EA2"},   // A enters A2, which it left last; TOP forgets
		{6, config(3, -1, -1, -1, -1, -1, -1, -1, -1), "XA2 XA EA1 EA2"}, // from A2 to A: A is left and entered again, and remembers A2
		{7, config(3, -1, -1, -1, -1, -1, -1, -1, -1), "XA2 XA XTOP T7 ETOP EA1 EA2"},
		{10, config(6, -1, 3, -1, -1, -1, -1, -1, -1), "XA2 XA EB EB2"},
		{9, config(5, -1, 3, -1, -1, -1, -1, -1, -1), ""},
		{2, config(7, 4, 3, -1, -1, -1, -1, -1, -1), "XB XTOP T2 EOUT"},
		{4, config(3, -1, -1, -1, -1, -1, -1, -1, -1), "ETOP EA1 EA2"},
	} {
		keep := config(g.Leaf, slices.Clone(g.Memory)...)
		next, actions, e := Fire(c, g, step.transition)
		if !reflect.DeepEqual(next, step.want) || strings.Join(actions, " ") != step.actions || e != api.OK {
			t.Fatalf("step %d: %v, %v, %v", i, next, actions, e)
		}
		if !reflect.DeepEqual(g, keep) {
			t.Fatalf("step %d changes its argument", i)
		}
		for k := range actions {
			actions[k] = "X"
		}
		if !reflect.DeepEqual(c, parsed(t, deep)) {
			t.Fatalf("step %d shares memory with the chart", i)
		}
		g = next
	}
	for _, k := range []struct {
		transition int
		want       api.Errno
	}{{-1, api.ErrRange}, {11, api.ErrRange}, {0, api.ErrOrder}, {3, api.ErrOrder}, {5, api.OK}} {
		if next, actions, e := Fire(c, g, k.transition); e != k.want || e != api.OK && (next.Leaf != 0 || len(next.Memory)+len(actions) > 0) {
			t.Errorf("Fire %d: %v, %v, %v", k.transition, next, actions, e)
		}
	}
}

// P47.7, P47.8
func TestStep(t *testing.T) {
	c := parsed(t, deep)
	g := config(2, -1, -1, -1, -1, -1, -1, -1, -1)
	for v, want := range map[uint16]struct {
		leaf int
		e    api.Errno
	}{0: {6, api.OK}, 1: {2, api.OK}, 2: {0, api.ErrArg}, 3: {0, api.ErrArg}, 4: {0, api.ErrNone}, 5: {3, api.OK}, 6: {7, api.OK}, 7: {0, api.ErrArg}, 8: {0, api.ErrArg}} {
		next, actions, e := Step(c, g, v)
		if e != want.e || next.Leaf != want.leaf || e != api.OK && len(next.Memory)+len(actions) > 0 {
			t.Errorf("Step %d: %v, %v, %v", v, next, actions, e)
		}
		enabled := Enabled(c, 2, v)
		if e == api.OK {
			fired, same, _ := Fire(c, g, enabled[0])
			if !reflect.DeepEqual(fired, next) || !slices.Equal(same, actions) {
				t.Errorf("Step %d is not Fire %v", v, enabled)
			}
		}
	}
	c.Transitions[7].When = nil
	if _, _, e := Step(c, g, 5); e != api.ErrConflict {
		t.Errorf("two transitions: %v", e)
	}
	l := parsed(t, lamp)
	leaves, actions, e := Run(l, []uint16{1, 0, 1, 1})
	if !slices.Equal(leaves, []int{0, 2, 3, 0, 3}) || !slices.Equal(actions, []string{"DIM"}) || e != api.OK {
		t.Errorf("Run: %v, %v, %v", leaves, actions, e)
	}
	if leaves, actions, e := Run(l, nil); !slices.Equal(leaves, []int{0}) || len(actions) > 0 || e != api.OK {
		t.Errorf("Run of nothing: %v, %v, %v", leaves, actions, e)
	}
	if leaves, actions, e := Run(l, []uint16{1, 2, 0}); len(leaves)+len(actions) > 0 || e != api.ErrArg {
		t.Errorf("Run with an error: %v, %v, %v", leaves, actions, e)
	}
	low := config(2, -1, -1, -1)
	if got := Enabled(l, 2, 0); !slices.Equal(got, []int{3}) {
		t.Errorf("Enabled: %v", got)
	}
	if got := Enabled(l, 2, 1); !slices.Equal(got, []int{2}) {
		t.Errorf("Enabled: %v", got)
	}
	if _, _, e := Step(l, low, 2); e != api.ErrState {
		t.Errorf("a configuration of another chart: %v", e)
	}
}

// P47.9, P47.10
func TestText(t *testing.T) {
	for _, src := range []string{lamp, deep} {
		c := parsed(t, src)
		s, e := Text(c)
		if s != src || e != api.OK {
			t.Errorf("%v\n%s", e, s)
		}
		if again := parsed(t, "#\n"+strings.ReplaceAll(src, " ", "   ")); !reflect.DeepEqual(again, c) {
			t.Errorf("%v", again)
		}
	}
}

// diagsOf compares the diagnostics of a text, each written as "line:column:code".
func diagsOf(t *testing.T, src string, want ...string) {
	t.Helper()
	c, diags := Parse(src)
	var got []string
	for _, d := range diags {
		got = append(got, fmt.Sprintf("%d:%d:%d", d.Line, d.Column, int(d.Code)))
	}
	if !slices.Equal(got, want) || !reflect.DeepEqual(c, api.Chart{}) {
		t.Errorf("%q: %v, want %v", src, got, want)
	}
}

// P47.10
func TestParseErrors(t *testing.T) {
	diagsOf(t, "", "1:1:9")
	diagsOf(t, "\n#\n", "1:1:9")
	diagsOf(t, "X\t\nY\x01", "1:2:4", "2:2:4")
	// The places.
	diagsOf(t, "STATE A - -", "1:1:9")
	diagsOf(t, " FOO\nCHART X A", "1:2:4", "2:1:9")
	diagsOf(t, "CHART X A\nCHART X A\nCONDITION A\nNEVER A\nCONDITION B\nNEVER B", "2:1:9", "5:1:9")
	diagsOf(t, "CHART X A\nENTRY A\nEXIT A\nWHEN A\nDO A\nTRANSITION A A", "2:1:9", "4:1:9")
	diagsOf(t, "CHART X A\nSTATE A - -\nEXIT A\nENTRY A\nEXIT A\nEXIT A\nCONDITION A\nNEVER A\nTRANSITION A A", "4:1:9", "6:1:9", "7:1:9", "9:1:9")
	diagsOf(t, "CHART X A\nSTATE A - -\nTRANSITION A A\nDO A\nWHEN A\nDO A\nTRANSITION A A\nSTATE B - -\nCONDITION A", "5:1:9", "8:1:9", "9:1:9")
	diagsOf(t, "CHART X A\nFOO\nSTATE A - -", "2:1:4", "3:1:9")
	diagsOf(t, "CHART X A\nSTATE A - -\nDO A", "3:1:9")
	// The fields.
	diagsOf(t, "CHART", "1:6:4")
	diagsOf(t, "CHART X", "1:8:4")
	diagsOf(t, "CHART x A\nCONDITION\nCONDITION a\nCONDITION A B\nNEVER\nNEVER A !b\nNEVER !", "1:7:5", "2:10:4", "3:11:5", "4:13:4", "5:6:4", "6:9:5", "7:7:5")
	diagsOf(t, "CHART X -\nSTATE\nSTATE - - -\nSTATE A\nSTATE A x -\nSTATE A - x\nSTATE A - - HIST\nSTATE A - - HISTORY X\nSTATE A - !B", "1:9:5", "2:6:4", "3:7:5", "4:8:4", "5:9:5", "6:11:5", "7:13:4", "8:21:4", "9:11:5")
	diagsOf(t, "CHART X A\nSTATE A - -\nENTRY\nEXIT A b\nTRANSITION A\nWHEN\nDO\nTRANSITION - A\nWHEN !!A\nDO A !B\nTRANSITION A A A", "3:6:4", "4:8:5", "5:13:4", "6:5:4", "7:3:4", "8:12:5", "9:6:5", "10:6:5", "11:16:4")
	diagsOf(t, "CHART ABCDEFGHI A", "1:7:5")
	// The names.
	diagsOf(t, "CHART X B\nCONDITION C\nNEVER C !D\nSTATE A - -\nSTATE E F G\nSTATE H A K\nTRANSITION A Z\nWHEN !C Q\nDO NAME\nTRANSITION Y Z", "1:9:6", "3:9:6", "5:9:6", "6:11:6", "7:14:6", "8:9:6", "10:12:6")
	var b strings.Builder
	for range 60 {
		b.WriteString("TRANSITION A Z\n")
	}
	if _, diags := Parse("CHART X A\nSTATE A - -\n" + b.String()); len(diags) != 50 || diags[49] != (api.Diag{Line: 52, Column: 14, Code: api.ErrNone}) {
		t.Errorf("%d diagnostics", len(diags))
	}
	// The chart as a whole.
	diagsOf(t, "CHART X A", "1:9:6")
	diagsOf(t, "CHART X A\nSTATE A - -\nSTATE A - -", "1:1:7")
	diagsOf(t, "CHART X A\nSTATE A - B\nSTATE B - -", "1:1:2")
	diagsOf(t, "CHART X A\nSTATE B A -\nSTATE A - B", "1:1:9")
	diagsOf(t, "CHART X A\nCONDITION C\nCONDITION C\nSTATE A - -", "1:1:7")
	diagsOf(t, "CHART X A\nCONDITION C\nCONDITION D\nSTATE A - -\nTRANSITION A A\nWHEN D C", "1:1:9")
	diagsOf(t, "CHART X A\nSTATE A - - HISTORY", "1:1:17")
}
