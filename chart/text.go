package chart

import (
	"slices"
	"strings"

	"flightdeck/api"
	"flightdeck/record"
)

// Words of records.
const (
	wordChart      = "CHART"
	wordCondition  = "CONDITION"
	wordNever      = "NEVER"
	wordState      = "STATE"
	wordEntry      = "ENTRY"
	wordExit       = "EXIT"
	wordTransition = "TRANSITION"
	wordWhen       = "WHEN"
	wordDo         = "DO"
	wordHistory    = "HISTORY"
)

// none stands for no state; not is put in front of a condition that must not hold.
const (
	none = "-"
	not  = "!"
)

// Text returns the source text of a chart.
func Text(c api.Chart) (string, api.Errno) {
	if e := Check(c); e != api.OK {
		return "", e
	}
	w := &writer{chart: c}
	w.line(wordChart, c.Name, c.States[c.Start].Name)
	for _, name := range c.Conds {
		w.line(wordCondition, name)
	}
	for _, l := range c.Never {
		w.list(wordNever, w.literals(l))
	}
	for _, s := range c.States {
		fields := []string{s.Name, w.state(s.Parent), w.state(s.Initial)}
		if s.History {
			fields = append(fields, wordHistory)
		}
		w.line(wordState, fields...)
		w.list(wordEntry, s.Entry)
		w.list(wordExit, s.Exit)
	}
	for _, t := range c.Transitions {
		w.line(wordTransition, w.state(t.From), w.state(t.To))
		w.list(wordWhen, w.literals(t.When))
		w.list(wordDo, t.Actions)
	}
	return w.text.String(), api.OK
}

// writer writes the lines of a chart.
type writer struct {
	chart api.Chart
	text  strings.Builder
}

func (w *writer) line(word string, fields ...string) {
	w.text.WriteString(word + " " + strings.Join(fields, " ") + "\n")
}

// list writes a line of fields, if there are any.
func (w *writer) list(word string, fields []string) {
	if len(fields) > 0 {
		w.line(word, fields...)
	}
}

// state returns the name of a state.
func (w *writer) state(i int) string {
	if i < 0 {
		return none
	}
	return w.chart.States[i].Name
}

func (w *writer) literals(l []api.Literal) []string {
	var words []string
	for _, x := range l {
		name := w.chart.Conds[x.Cond]
		if x.Neg {
			name = not + name
		}
		words = append(words, name)
	}
	return words
}

// mayFollow returns the words behind whose records one with a word may stand; false if it is no word.
func mayFollow(word string) (string, bool) {
	behind, ok := map[string]string{
		wordChart:      "",
		wordCondition:  "CHART CONDITION",
		wordNever:      "CHART CONDITION NEVER",
		wordState:      "CHART CONDITION NEVER STATE ENTRY EXIT",
		wordEntry:      "STATE",
		wordExit:       "STATE ENTRY",
		wordTransition: "STATE ENTRY EXIT TRANSITION WHEN DO",
		wordWhen:       "TRANSITION",
		wordDo:         "TRANSITION WHEN",
	}[word]
	return behind, ok
}

// parser has what the rounds have made of a source.
type parser struct {
	lines []api.Line
	diags []api.Diag
	chart api.Chart
	// The first condition and state with each name.
	conds, states map[string]int
}

// Parse returns the chart of a source text, or its diagnostics.
func Parse(src string) (api.Chart, []api.Diag) {
	p := &parser{conds: map[string]int{}, states: map[string]int{}}
	for _, round := range [4]func(){func() { p.read(src) }, p.take, p.resolve, p.check} {
		round()
		if len(p.diags) > 0 {
			return api.Chart{}, p.diags
		}
	}
	return p.chart, nil
}

func (p *parser) note(d api.Diag) {
	if len(p.diags) < api.MaxDiags {
		p.diags = append(p.diags, d)
	}
}

// read is the first round: the records.
func (p *parser) read(src string) {
	p.lines, p.diags = record.Read(src)
	if len(p.lines) == 0 && len(p.diags) == 0 {
		p.note(api.Diag{Line: 1, Column: 1, Code: api.ErrOrder})
	}
}

// take is the second round: every record by itself, and its place.
func (p *parser) take() {
	before := ""
	for _, l := range p.lines {
		word := l.Fields[0].Text
		if e := placeOf(word, before); e != api.OK {
			p.note(api.Diag{Line: l.Number, Column: l.Fields[0].Column, Code: e})
		} else if d, failed := takeFields(l, word); failed {
			p.note(d)
		}
		before = word
	}
}

// placeOf returns the error of a record with a word behind one with another word ("" for none).
func placeOf(word, before string) api.Errno {
	behind, ok := mayFollow(word)
	switch {
	case !ok:
		return api.ErrForm
	case before == "" && word == wordChart:
		return api.OK
	case before == "" || !slices.Contains(strings.Fields(behind), before):
		return api.ErrOrder
	}
	return api.OK
}

// takeFields returns the diagnostic of the fields of a record.
func takeFields(l api.Line, word string) (api.Diag, bool) {
	s := record.Scan(l)
	s.Field()
	switch word {
	case wordCondition:
		takeName(s, "")
	case wordChart, wordTransition:
		takeName(s, "")
		takeName(s, "")
	case wordState:
		takeName(s, "")
		takeName(s, none)
		takeName(s, none)
		if s.Left() > 0 {
			s.Word(wordHistory)
		}
	case wordNever, wordWhen:
		takeLiteral(s)
		for s.Left() > 0 {
			takeLiteral(s)
		}
	default:
		takeName(s, "")
		for s.Left() > 0 {
			takeName(s, "")
		}
	}
	return s.End()
}

// takeName takes a name, or another text that is allowed in its place.
func takeName(s *record.Scanner, other string) {
	if text := s.Field(); !isName(text) && (other == "" || text != other) {
		s.Fail(api.ErrName)
	}
}

func takeLiteral(s *record.Scanner) {
	if !isName(strings.TrimPrefix(s.Field(), not)) {
		s.Fail(api.ErrName)
	}
}

// resolve is the third round: the names of conditions and states.
func (p *parser) resolve() {
	for _, l := range p.lines {
		switch name := l.Fields[1].Text; l.Fields[0].Text {
		case wordCondition:
			remember(p.conds, name, len(p.chart.Conds))
			p.chart.Conds = append(p.chart.Conds, name)
		case wordState:
			remember(p.states, name, len(p.chart.States))
			p.chart.States = append(p.chart.States, api.ChartState{Name: name, Parent: -1, Initial: -1})
		}
	}
	at := -1 // the state whose record was resolved last
	for _, l := range p.lines {
		if l.Fields[0].Text == wordState {
			at++
		}
		if column := p.resolveLine(l, at); column > 0 {
			p.note(api.Diag{Line: l.Number, Column: column, Code: api.ErrNone})
		}
	}
}

// remember keeps the index of the first element with a name.
func remember(m map[string]int, name string, i int) {
	if _, ok := m[name]; !ok {
		m[name] = i
	}
}

// resolveLine puts a record into the chart, and returns the column of the first name that does not occur, 0 if there is none.
func (p *parser) resolveLine(l api.Line, at int) int {
	r := &resolver{p: p}
	fields := l.Fields[1:]
	c := &p.chart
	switch l.Fields[0].Text {
	case wordChart:
		c.Name, c.Start = fields[0].Text, r.state(fields[1])
	case wordNever:
		c.Never = append(c.Never, r.literals(fields))
	case wordState:
		s := &c.States[at]
		s.Parent, s.Initial, s.History = r.state(fields[1]), r.state(fields[2]), len(fields) > 3
	case wordEntry:
		c.States[at].Entry = texts(fields)
	case wordExit:
		c.States[at].Exit = texts(fields)
	case wordTransition:
		c.Transitions = append(c.Transitions, api.Transition{From: r.state(fields[0]), To: r.state(fields[1])})
	case wordWhen:
		c.Transitions[len(c.Transitions)-1].When = r.literals(fields)
	case wordDo:
		c.Transitions[len(c.Transitions)-1].Actions = texts(fields)
	}
	return r.column
}

func texts(fields []api.Field) []string {
	var l []string
	for _, f := range fields {
		l = append(l, f.Text)
	}
	return l
}

// resolver finds names, and notes the column of the first one that does not occur.
type resolver struct {
	p      *parser
	column int
}

func (r *resolver) find(m map[string]int, name string, column int) int {
	i, ok := m[name]
	if !ok && r.column == 0 {
		r.column = column
	}
	return i
}

func (r *resolver) state(f api.Field) int {
	if f.Text == none {
		return -1
	}
	return r.find(r.p.states, f.Text, f.Column)
}

func (r *resolver) literals(fields []api.Field) []api.Literal {
	var l []api.Literal
	for _, f := range fields {
		name, neg := strings.CutPrefix(f.Text, not)
		l = append(l, api.Literal{Cond: r.find(r.p.conds, name, f.Column), Neg: neg})
	}
	return l
}

// check is the fourth round: the chart as a whole.
func (p *parser) check() {
	if e := Check(p.chart); e != api.OK {
		p.note(api.Diag{Line: 1, Column: 1, Code: e})
	}
}
