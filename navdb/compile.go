package navdb

import (
	"cmp"
	"slices"

	"flightdeck/airway"
	"flightdeck/api"
	"flightdeck/calendar"
	"flightdeck/fix"
	"flightdeck/leg"
	"flightdeck/procedure"
	"flightdeck/record"
)

// Words of records.
const (
	wordDatabase = "DATABASE"
	wordAirway   = "AIRWAY"
	wordVia      = "VIA"
	wordPart     = "PART"
	wordLeg      = "LEG"
)

// isFix reports whether a word begins the record of a fix.
func isFix(word string) bool {
	switch word {
	case "WAYPOINT", "VOR", "DME", "NDB", "AIRPORT", "RUNWAY":
		return true
	}
	return false
}

// procKind returns the kind of the procedure that a word begins, 0 if there is none.
func procKind(word string) api.ProcKind {
	switch word {
	case "DEPARTURE":
		return api.Departure
	case "ARRIVAL":
		return api.Arrival
	case "APPROACH":
		return api.Approach
	}
	return 0
}

func isWord(word string) bool {
	switch word {
	case wordDatabase, wordAirway, wordVia, wordPart, wordLeg:
		return true
	}
	return isFix(word) || procKind(word) != 0
}

// item is a record with the indices of what it gives: of a fix, an airway or a procedure; of a point or a part; of a leg.
type item struct {
	line              api.Line
	word              string
	first, second, at int
}

// place tells which records may come next.
type place struct{ begun, inAirway, inProcedure, inPart bool }

// next returns the error of the place of a record, and goes on behind it. A record counts by its word, even if it has an error.
func (p *place) next(word string) api.Errno {
	before := *p
	p.begun = true
	p.inAirway = word == wordAirway || word == wordVia && before.inAirway
	p.inPart = word == wordPart || word == wordLeg && before.inPart
	p.inProcedure = procKind(word) != 0 || (word == wordPart || word == wordLeg) && before.inProcedure
	switch {
	case !isWord(word):
		return api.ErrForm
	case (word == wordDatabase) == before.begun,
		word == wordVia && !before.inAirway,
		word == wordPart && !before.inProcedure,
		word == wordLeg && !before.inPart:
		return api.ErrOrder
	}
	return api.OK
}

// compiler has what the rounds have made of a source.
type compiler struct {
	src   string
	lines []api.Line
	items []item
	db    api.DB
	diags []api.Diag
}

// Compile returns the database of a source text, or its diagnostics.
func Compile(src string) (api.DB, []api.Diag) {
	c := &compiler{src: src}
	for _, round := range []func(){c.read, c.take, c.verify} {
		round()
		if len(c.diags) > 0 {
			return api.DB{}, c.diags
		}
	}
	return c.sorted(), nil
}

// note notes a diagnostic, unless there are enough of them.
func (c *compiler) note(d api.Diag) {
	if len(c.diags) < api.MaxDiags {
		c.diags = append(c.diags, d)
	}
}

// fail notes an error at the first field of a record.
func (c *compiler) fail(l api.Line, e api.Errno) {
	if e != api.OK {
		c.note(api.Diag{Line: l.Number, Column: l.Fields[0].Column, Code: e})
	}
}

// read is the first round: the records.
func (c *compiler) read() {
	c.lines, c.diags = record.Read(c.src)
	if len(c.lines) == 0 && len(c.diags) == 0 {
		c.note(api.Diag{Line: 1, Column: 1, Code: api.ErrOrder})
	}
}

// take is the second round: every record by itself, and its place.
func (c *compiler) take() {
	var p place
	for i, l := range c.lines {
		word := l.Fields[0].Text
		if e := p.next(word); e != api.OK {
			c.fail(l, e)
			continue
		}
		if d, failed := c.takeOne(i, word); failed {
			c.note(d)
		}
	}
}

// takeOne takes a record that stands where it may.
func (c *compiler) takeOne(i int, word string) (api.Diag, bool) {
	l := c.lines[i]
	switch {
	case word == wordVia: // taken with its airway
		return api.Diag{}, false
	case word == wordAirway:
		return c.takeAirway(i)
	case word == wordDatabase:
		return c.takeHeader(l)
	case word == wordPart:
		return c.takePart(l)
	case word == wordLeg:
		return c.takeLeg(l)
	case isFix(word):
		f, d, failed := fix.Take(l)
		c.db.Fixes = append(c.db.Fixes, f)
		c.items = append(c.items, item{line: l, word: word, first: len(c.db.Fixes) - 1})
		return d, failed
	}
	return c.takeProcedure(l, procKind(word))
}

func (c *compiler) takeHeader(l api.Line) (api.Diag, bool) {
	s := record.Scan(l)
	s.Word(wordDatabase)
	h := api.Header{Name: s.Name(maxName)}
	number, e := calendar.ParseCycle(s.Field())
	s.Fail(e)
	h.Cycle = number
	h.From, h.To, _ = calendar.CycleDays(number)
	h.Origin = s.Pos()
	c.db.Header = h
	c.items = append(c.items, item{line: l, word: wordDatabase})
	return s.End()
}

// takeAirway takes an AIRWAY record and the VIA records that belong to it.
func (c *compiler) takeAirway(i int) (api.Diag, bool) {
	end := i + 1
	for end < len(c.lines) && c.lines[end].Fields[0].Text == wordVia {
		end++
	}
	a, d, failed := airway.Take(c.lines[i:end])
	c.db.Airways = append(c.db.Airways, a)
	for k, l := range c.lines[i:end] {
		c.items = append(c.items, item{line: l, word: l.Fields[0].Text, first: len(c.db.Airways) - 1, second: k - 1})
	}
	return d, failed
}

func (c *compiler) takeProcedure(l api.Line, k api.ProcKind) (api.Diag, bool) {
	s := record.Scan(l)
	word := s.Field()
	c.db.Procedures = append(c.db.Procedures, api.Procedure{Airport: s.Name(6), Name: s.Name(maxName), Kind: k})
	c.items = append(c.items, item{line: l, word: word, first: len(c.db.Procedures) - 1})
	return s.End()
}

func (c *compiler) takePart(l api.Line) (api.Diag, bool) {
	s := record.Scan(l)
	s.Word(wordPart)
	part := api.Part{Kind: api.PartKind(1 + s.Word("RUNWAY", "COMMON", "ENROUTE", "MISSED"))}
	if part.Kind == api.RunwayPart || part.Kind == api.EnroutePart {
		part.Name = s.Name(maxName)
	}
	// Where the record of the procedure is in a wrong place there is none, but that is an error already.
	if k := len(c.db.Procedures) - 1; k >= 0 {
		p := &c.db.Procedures[k]
		p.Parts = append(p.Parts, part)
		c.items = append(c.items, item{line: l, word: wordPart, first: k, second: len(p.Parts) - 1})
	}
	return s.End()
}

func (c *compiler) takeLeg(l api.Line) (api.Diag, bool) {
	s := record.Scan(l)
	s.Word(wordLeg)
	x, _, e := leg.Parse(s.Rest())
	if e != api.OK {
		return api.Diag{Line: l.Number, Column: l.Fields[0].Column, Code: e}, true
	}
	k := len(c.db.Procedures) - 1
	if k < 0 || len(c.db.Procedures[k].Parts) == 0 {
		return api.Diag{}, false // its PART record belongs to nothing, which is an error already
	}
	parts := c.db.Procedures[k].Parts
	part := &parts[len(parts)-1]
	part.Legs = append(part.Legs, x)
	c.items = append(c.items, item{line: l, word: wordLeg, first: k, second: len(parts) - 1, at: len(part.Legs) - 1})
	return api.Diag{}, false
}

// verify is the third round: every element among the others.
func (c *compiler) verify() {
	v := verifier{db: c.db, index: indexOf(c.db.Fixes), seen: map[string]bool{}, airports: map[string]bool{}}
	for _, x := range c.items {
		c.fail(x.line, v.check(x))
	}
}

// verifier has a database in the order of its source, and what came up in it already.
type verifier struct {
	db       api.DB
	index    index
	seen     map[string]bool // references and keys
	airports map[string]bool
}

// check returns the error of an element.
func (v *verifier) check(x item) api.Errno {
	switch {
	case x.word == wordDatabase:
		return checkHeader(v.db.Header)
	case isFix(x.word):
		return v.checkFix(x.first)
	case x.word == wordAirway:
		return v.limited(x.first, api.MaxAirways, "AIRWAY "+v.db.Airways[x.first].Name)
	case x.word == wordVia:
		return found(v.index.refs[v.db.Airways[x.first].Points[x.second].Ref])
	case x.word == wordPart:
		p := v.db.Procedures[x.first]
		return found(v.index.hasRunway(p, p.Parts[x.second]))
	case x.word == wordLeg:
		return found(v.index.hasFixes(v.db.Procedures[x.first].Parts[x.second].Legs[x.at]))
	}
	return v.checkProcedure(x.first)
}

func found(ok bool) api.Errno {
	if !ok {
		return api.ErrNone
	}
	return api.OK
}

// limited returns the error of the number of an element, or of one before it that has its key.
func (v *verifier) limited(i, most int, key string) api.Errno {
	before := v.seen[key]
	v.seen[key] = true
	switch {
	case i >= most:
		return api.ErrLimit
	case before:
		return api.ErrExists
	}
	return api.OK
}

func (v *verifier) checkFix(i int) api.Errno {
	f := v.db.Fixes[i]
	taken := v.airports[f.Ident]
	v.airports[f.Ident] = taken || f.Kind == api.Airport
	if e := v.limited(i, api.MaxFixes, fix.Ref(f)); e != api.OK {
		return e
	}
	return placeFix(f, v.db.Header.Origin, taken, v.index)
}

func (v *verifier) checkProcedure(i int) api.Errno {
	p := v.db.Procedures[i]
	if i >= api.MaxProcedures {
		return api.ErrLimit
	}
	e := procedure.Check(p)
	if f := v.limited(i, api.MaxProcedures, key(p)); e == api.OK {
		e = f
	}
	if e != api.OK {
		return e
	}
	return found(v.index.airports[p.Airport])
}

// sorted returns the database in its order.
func (c *compiler) sorted() api.DB {
	db := c.db
	db.Fixes = fix.Sort(db.Fixes)
	slices.SortFunc(db.Airways, func(a, b api.Airway) int { return cmp.Compare(a.Name, b.Name) })
	slices.SortFunc(db.Procedures, procedure.Compare)
	return db
}
