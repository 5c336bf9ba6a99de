package history

import (
	"fmt"
	"strings"
	"testing"

	"flightdeck/api"
	"flightdeck/edit"
	"flightdeck/leg"
	"flightdeck/plan"
)

// planOf makes a plan of legs, separated by semicolons.
func planOf(active int, text string) api.Plan {
	p := api.Plan{From: "KSEA", Active: active}
	for _, s := range strings.Split(text, ";") {
		l, _, e := leg.Parse(s)
		if e != api.OK {
			panic(s)
		}
		p.Entries = append(p.Entries, api.Entry{Leg: l, Section: api.SecEnroute})
	}
	return p
}

const three = "IF A/00;TF B/00;TF C/00"

func started(t *testing.T, p api.Plan) *History {
	t.Helper()
	h, e := New(p)
	if e != api.OK {
		t.Fatal(e)
	}
	return h
}

func (h *History) mustDo(t *testing.T, text string) {
	t.Helper()
	e, _ := edit.Parse(text)
	if f := h.Do(api.DB{}, e); f != api.OK {
		t.Fatalf("%s: %v", text, f)
	}
}

func depth(t *testing.T, h *History, undo, redo int) {
	t.Helper()
	if u, r := h.Depth(); u != undo || r != redo {
		t.Errorf("Depth is %d, %d, want %d, %d", u, r, undo, redo)
	}
}

// shows compares the temporary plan with a text of legs; "" stands for none.
func shows(t *testing.T, h *History, text string) {
	t.Helper()
	p, ok := h.Temp()
	if text == "" {
		if ok || !plan.Same(p, api.Plan{}) {
			t.Errorf("the temporary plan is %v", p)
		}
		return
	}
	if want := planOf(p.Active, text); !ok || !plan.Same(p, want) {
		t.Errorf("the temporary plan is %v, %v, want %v", p, ok, want)
	}
}

// P24.1
func TestNew(t *testing.T) {
	p := planOf(0, three)
	h := started(t, p)
	p.Entries[0].Via = "X"
	if got := h.Active(); !plan.Same(got, planOf(0, three)) {
		t.Errorf("New shares memory: %v", got)
	}
	h.Active().Entries[0].Via = "X"
	if got := h.Active(); !plan.Same(got, planOf(0, three)) {
		t.Errorf("Active shares memory: %v", got)
	}
	shows(t, h, "")
	depth(t, h, 0, 0)
	if h, e := New(api.Plan{Active: 5}); h != nil || e != api.ErrRange {
		t.Errorf("New of a plan that is not valid: %v", e)
	}
	h.mustDo(t, "DELETE 2")
	temp, _ := h.Temp()
	temp.Entries[0].Via = "X"
	shows(t, h, "IF A/00;TF B/00")
}

// P24.2
func TestDo(t *testing.T) {
	h := started(t, planOf(0, three))
	h.mustDo(t, "SPD 2 250")
	shows(t, h, "IF A/00;TF B/00;TF C/00 s250")
	h.mustDo(t, "DELETE 2")
	shows(t, h, "IF A/00;TF B/00")
	depth(t, h, 2, 0)
	h.Undo()
	e, _ := edit.Parse("DELETE 9")
	if f := h.Do(api.DB{}, e); f != api.ErrNone {
		t.Errorf("Do of an edit that is refused: %v", f)
	}
	if f := h.Replace(api.Plan{Active: 7}); f != api.ErrRange {
		t.Errorf("Replace by a plan that is not valid: %v", f)
	}
	depth(t, h, 1, 1)
	shows(t, h, "IF A/00;TF B/00;TF C/00 s250")
	q := planOf(-1, "IF D/00")
	if f := h.Replace(q); f != api.OK {
		t.Errorf("Replace: %v", f)
	}
	q.Entries[0].Via = "X"
	shows(t, h, "IF D/00")
	depth(t, h, 2, 0)
	if !plan.Same(h.Active(), planOf(0, three)) {
		t.Errorf("the active plan changes")
	}
}

// P24.2, P24.3, P24.6: more changes than can be undone.
func TestLimit(t *testing.T) {
	for _, n := range []int{1, 5, 16, 17, 25} {
		h := started(t, planOf(0, three))
		states := []string{""}
		for i := range n {
			h.mustDo(t, fmt.Sprintf("SPD 2 %d", i+1))
			states = append(states, fmt.Sprintf("IF A/00;TF B/00;TF C/00 s%d", i+1))
		}
		most := min(n, api.MaxUndo)
		for k := range most {
			depth(t, h, most-k, k)
			shows(t, h, states[n-k])
			if e := h.Undo(); e != api.OK {
				t.Errorf("undo %d of %d: %v", k, n, e)
			}
		}
		shows(t, h, states[n-most])
		if h.Undo() != api.ErrNone {
			t.Errorf("more undos than %d", most)
		}
		for k := range most {
			if e := h.Redo(); e != api.OK {
				t.Errorf("redo %d of %d: %v", k, n, e)
			}
			shows(t, h, states[n-most+k+1])
			depth(t, h, k+1, most-k-1)
		}
		if h.Redo() != api.ErrNone || !plan.Same(h.Active(), planOf(0, three)) {
			t.Errorf("behind all redos")
		}
	}
}

// P24.3, P24.4
func TestExecuteErase(t *testing.T) {
	h := started(t, planOf(0, three))
	if h.Execute() != api.ErrState || h.Erase() != api.ErrState || h.Undo() != api.ErrNone || h.Redo() != api.ErrNone {
		t.Errorf("without a temporary plan")
	}
	h.mustDo(t, "SPD 2 250")
	h.mustDo(t, "SPD 2 260")
	h.Undo()
	if e := h.Erase(); e != api.OK || !plan.Same(h.Active(), planOf(0, three)) {
		t.Errorf("Erase: %v", e)
	}
	shows(t, h, "")
	depth(t, h, 0, 0)
	h.mustDo(t, "SPD 2 250")
	h.mustDo(t, "SPD 2 260")
	h.Undo()
	if e := h.Execute(); e != api.OK || !plan.Same(h.Active(), planOf(0, "IF A/00;TF B/00;TF C/00 s250")) {
		t.Errorf("Execute: %v, %v", e, h.Active())
	}
	shows(t, h, "")
	depth(t, h, 0, 0)
	h.mustDo(t, "SPD 2 270")
	h.Undo()
	shows(t, h, "")
	depth(t, h, 0, 1)
	if h.Execute() != api.ErrState || h.Erase() != api.ErrState {
		t.Errorf("undone to none")
	}
	h.mustDo(t, "SPD 2 280")
	depth(t, h, 1, 0)
}

// P24.5
func TestAdvance(t *testing.T) {
	h := started(t, planOf(0, three))
	h.mustDo(t, "SPD 2 250")
	h.mustDo(t, "DELETE 2")
	h.Undo()
	depth(t, h, 1, 1)
	if e := h.Advance(1); e != api.OK || h.Active().Active != 1 {
		t.Errorf("Advance: %v", e)
	}
	if p, _ := h.Temp(); p.Active != 1 {
		t.Errorf("the temporary plan stays at %d", p.Active)
	}
	h.Redo()
	if p, _ := h.Temp(); p.Active != 1 || len(p.Entries) != 2 {
		t.Errorf("the plan of redo stays at %d", p.Active)
	}
	// The plan without C has not more than two entries; C with a speed is another one.
	if e := h.Advance(2); e != api.OK || h.Active().Active != 2 {
		t.Errorf("Advance: %v", e)
	}
	if p, _ := h.Temp(); p.Active != 1 {
		t.Errorf("the temporary plan advances to %d", p.Active)
	}
	h.Undo()
	if p, _ := h.Temp(); p.Active != 1 {
		t.Errorf("the plan of undo advances to %d", p.Active)
	}
	gap := planOf(-1, "IF A/00;TF B/00;IF C/00")
	gap.Entries[1] = api.Entry{Gap: true}
	g := started(t, gap)
	g.Replace(planOf(-1, "IF A/00;TF B/00"))
	for _, to := range []int{-2, -1, 1, 3, 1 << 40} {
		if e := g.Advance(to); e != api.ErrRange {
			t.Errorf("Advance(%d): %v", to, e)
		}
	}
	if e := g.Advance(0); e != api.OK || g.Advance(0) != api.ErrRange || g.Active().Active != 0 {
		t.Errorf("Advance to the first leg: %v", e)
	}
	if p, _ := g.Temp(); p.Active != 0 {
		t.Errorf("the temporary plan stays at %d", p.Active)
	}
	if e := g.Advance(2); e != api.OK || g.Active().Active != 2 {
		t.Errorf("Advance behind the gap: %v", e)
	}
	// States of undo advance, too.
	u := started(t, planOf(-1, three))
	u.mustDo(t, "SPD 2 250")
	u.mustDo(t, "SPD 2 260")
	u.mustDo(t, "ALT 0 5000")
	u.Advance(0)
	if p, _ := u.Temp(); p.Active != -1 {
		t.Errorf("a plan with another beginning advances")
	}
	u.Undo()
	if p, _ := u.Temp(); p.Active != 0 {
		t.Errorf("the plan of undo stays at %d", p.Active)
	}
	u.Undo()
	if p, _ := u.Temp(); p.Active != 0 {
		t.Errorf("the older plan of undo stays at %d", p.Active)
	}
}

// P24.7
func TestText(t *testing.T) {
	h := started(t, planOf(0, three))
	texts := map[string]bool{}
	check := func() {
		t.Helper()
		s := h.Text()
		texts[s] = true
		g, e := Parse(s)
		if e != api.OK || g.Text() != s {
			t.Fatalf("Parse(%q): %v", s, e)
		}
		// The two behave alike.
		a, b := started(t, h.Active()), g
		*a = *h
		for _, step := range []func(x *History) api.Errno{(*History).Undo, (*History).Redo, (*History).Redo} {
			if x, y := step(a), step(b); x != y || a.Text() != b.Text() {
				t.Errorf("%v, %v:\n%s\n%s", x, y, a.Text(), b.Text())
			}
		}
		h, _ = Parse(s)
	}
	check()
	const head = "PLAN KSEA - 0\nE - 0,0 - IF A/00\nE - 0,0 - TF B/00\nE - 0,0 - TF C/00"
	if s := h.Text(); s != "HISTORY 0 0 0\n"+head {
		t.Errorf("%q", s)
	}
	h.mustDo(t, "SPD 2 250")
	check()
	if s := h.Text(); s != "HISTORY 1 0 1\n"+head+"\n"+head+" s250\nNONE" {
		t.Errorf("%q", s)
	}
	h.mustDo(t, "SPD 2 260")
	h.mustDo(t, "DELETE 2")
	check()
	h.Undo()
	check()
	h.Undo()
	check()
	if s := h.Text(); s != "HISTORY 1 2 1\n"+head+"\n"+head+" s250\nNONE\n"+strings.TrimSuffix(head, "\nE - 0,0 - TF C/00")+"\n"+head+" s260" {
		t.Errorf("%q", s)
	}
	h.Undo()
	check()
	for i := range 20 {
		h.mustDo(t, fmt.Sprintf("SPD 2 %d", i+1))
		check()
	}
	if len(texts) != 26 {
		t.Errorf("%d texts", len(texts))
	}
}

// P24.7
func TestParseErrors(t *testing.T) {
	const p, q = "PLAN - - -1", "PLAN KSEA - -1"
	for _, s := range []string{"HISTORY 0 0 0\n" + p, "HISTORY 0 0 1\n" + p + "\n" + q, "HISTORY 1 0 1\n" + p + "\n" + p + "\nNONE", "HISTORY 2 0 1\n" + p + "\n" + p + "\nNONE\n" + q, "HISTORY 0 1 0\n" + p + "\n" + q, "HISTORY 1 1 1\n" + p + "\n" + p + "\n" + q + "\n" + q, "HISTORY 16 0 1\n" + p + "\n" + p + strings.Repeat("\n"+q, 16), "HISTORY 6 10 1\n" + p + "\n" + p + strings.Repeat("\n"+q, 16)} {
		if h, e := Parse(s); e != api.OK || h.Text() != s {
			t.Errorf("Parse(%q): %v", s, e)
		}
	}
	for _, s := range []string{"", "HISTORY", "HISTORY 0 0 0", "HISTORY 0 0 0\n", "HISTORY 0 0 0\nNONE", "HISTORY 0 0 0\n" + p + "\n", "HISTORY 0 0 0\n" + p + "\n" + q, "HISTORY 0 0 0 \n" + p, "history 0 0 0\n" + p, "HISTORY 00 0 0\n" + p, "HISTORY 0 0 2\n" + p, "HISTORY -1 0 0\n" + p, "HISTORY 0 0\n" + p, "HISTORY 0 0 0\n\n" + p, "HISTORY 0 0 0\nE - 0,0 - IF A/00\n" + p,
		"HISTORY 0 0 1\n" + p + "\nNONE", "HISTORY 1 0 0\n" + p + "\n" + q, "HISTORY 1 0 0\n" + p + "\nNONE", "HISTORY 2 0 1\n" + p + "\n" + p + "\n" + q + "\nNONE", "HISTORY 2 0 1\n" + p + "\n" + p + "\nNONE\nNONE", "HISTORY 0 1 1\n" + p + "\n" + p + "\nNONE", "HISTORY 0 1 0\n" + p + "\nNONE", "HISTORY 17 0 1\n" + p + "\n" + p + strings.Repeat("\n"+q, 17), "HISTORY 0 17 1\n" + p + "\n" + p + strings.Repeat("\n"+q, 17), "HISTORY 9 8 1\n" + p + "\n" + p + strings.Repeat("\n"+q, 17), "HISTORY 1 0 1\n" + p + "\n" + p, "HISTORY 0 0 1\n" + p, "HISTORY 0 0 0\nPLAN - - 5", "HISTORY 1 0 1\n" + p + "\n" + p + "\nNONE\nE - 0,0 - IF A/00"} {
		if h, e := Parse(s); e != api.ErrForm || h != nil {
			t.Errorf("Parse(%q): %v", s, e)
		}
	}
}

func TestNil(t *testing.T) {
	var h *History
	p, ok := h.Temp()
	u, r := h.Depth()
	if !plan.Same(h.Active(), api.Plan{}) || ok || !plan.Same(p, api.Plan{}) || u != 0 || r != 0 || h.Text() != "" {
		t.Errorf("values of nil")
	}
	for i, e := range []api.Errno{h.Do(api.DB{}, api.Edit{}), h.Replace(api.Plan{Active: -1}), h.Undo(), h.Redo(), h.Execute(), h.Erase(), h.Advance(0)} {
		if e != api.ErrArg {
			t.Errorf("method %d of nil: %v", i, e)
		}
	}
}
