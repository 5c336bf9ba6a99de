package edit

import (
	"slices"
	"strings"

	"flightdeck/airway"
	"flightdeck/api"
	"flightdeck/leg"
	"flightdeck/navdb"
	"flightdeck/plan"
	"flightdeck/procedure"
	"flightdeck/route"
)

// change is an edit of a plan: what becomes of the plan, and its entries before they are joined.
type change struct {
	db   api.DB
	old  api.Plan
	edit api.Edit
	plan api.Plan
	list []api.Entry
}

// Apply returns the plan after an edit. With an error there is no plan.
func Apply(db api.DB, p api.Plan, e api.Edit) (api.Plan, api.Errno) {
	if f := plan.Check(p); f != api.OK {
		return api.Plan{}, f
	}
	if f := Check(e); f != api.OK {
		return api.Plan{}, f
	}
	c := &change{db: db, old: p, edit: e, plan: p}
	if f := c.make(); f != api.OK {
		return api.Plan{}, f
	}
	c.plan.Entries = plan.Join(c.list)
	if f := plan.Check(c.plan); f != api.OK {
		return api.Plan{}, f
	}
	return c.plan, api.OK
}

// make makes the list of an edit.
func (c *change) make() api.Errno {
	switch c.edit.Op {
	case api.LoadDeparture:
		return c.loadDeparture()
	case api.LoadArrival:
		return c.load(api.Arrival, api.SecArrival)
	case api.LoadApproach:
		return c.load(api.Approach, api.SecApproach)
	}
	if e := c.checkAt(); e != api.OK {
		return e
	}
	switch c.edit.Op {
	case api.InsertFix:
		return c.insertFix()
	case api.DeleteEntry:
		return c.deleteEntry()
	case api.DirectTo:
		return c.directTo()
	case api.InsertHold:
		return c.insertHold()
	case api.JoinAirway:
		return c.joinAirway()
	case api.Divert:
		return c.divert()
	}
	return c.setLimit()
}

// checkAt returns the error of the place of an edit.
func (c *change) checkAt() api.Errno {
	at, ahead := c.edit.At, c.edit.Op == api.InsertFix || c.edit.Op == api.DeleteEntry
	switch {
	case at > len(c.old.Entries), at == len(c.old.Entries) && c.edit.Op != api.InsertFix:
		return api.ErrNone
	case at < c.old.Active, at == c.old.Active && ahead:
		return api.ErrState
	}
	return api.OK
}

// put makes the list of some parts.
func (c *change) put(parts ...[]api.Entry) { c.list = slices.Concat(parts...) }

// one is a part of the list of one entry.
func one(x api.Entry) []api.Entry { return []api.Entry{x} }

func gap() []api.Entry { return one(api.Entry{Gap: true}) }

// free is the window that is no restriction.
func free() api.Window { return api.Window{Lo: api.MinAlt, Hi: api.MaxAlt} }

// endsAtFix reports whether an entry is a leg that ends at its fix.
func endsAtFix(x api.Entry) bool { return !x.Gap && leg.Ends(x.Leg.Type) }

// direct returns the direct form of an entry that ends at its fix.
func direct(x api.Entry) api.Entry {
	l := x.Leg
	x.Leg = api.Leg{Type: api.DF, Fix: l.Fix, Over: l.Over, Alt: l.Alt, Speed: l.Speed, RNP: l.RNP}
	x.Mid = api.Point{}
	return x
}

// bind returns the entry of a leg to a fix without restrictions and without a source.
func (c *change) bind(t api.LegType, ref string, s api.Section) ([]api.Entry, api.Errno) {
	return plan.Bind(c.db, []api.Leg{{Type: t, Fix: ref, Alt: free()}}, s, "")
}

func (c *change) insertFix() api.Errno {
	l, at := c.old.Entries, c.edit.At
	if j := plan.Find(c.old, at, c.edit.Ref); j >= 0 {
		c.put(l[:at], one(direct(l[j])), l[j+1:])
		return api.OK
	}
	x, e := c.bind(api.DF, c.edit.Ref, sectionAt(l, at))
	c.put(l[:at], x, gap(), l[at:])
	return e
}

// sectionAt returns the section of the first leg from an index on, or that of the last leg.
func sectionAt(l []api.Entry, at int) api.Section {
	s := api.SecEnroute
	for i, x := range l {
		if x.Gap {
			continue
		}
		s = x.Section
		if i >= at {
			break
		}
	}
	return s
}

func (c *change) deleteEntry() api.Errno {
	l, at := c.old.Entries, c.edit.At
	if !l[at].Gap {
		c.put(l[:at], gap(), l[at+1:])
		return api.OK
	}
	// A valid plan does not end with a gap.
	next := l[at+1]
	if next.Leg.Type == api.IF {
		next = direct(next)
	}
	c.put(l[:at], one(next), l[at+2:])
	return api.OK
}

func (c *change) directTo() api.Errno {
	at := c.edit.At
	x := c.old.Entries[at]
	if !endsAtFix(x) {
		return api.ErrType
	}
	rest := c.old.Entries[at+1:]
	if leg.From(x.Leg.Type) { // a hold or a procedure turn stays, behind the way to its fix
		rest = c.old.Entries[at:]
		x.Leg = api.Leg{Fix: x.Leg.Fix, Alt: free()}
	}
	c.put(one(direct(x)), rest)
	c.plan.Active = 0
	return api.OK
}

// setLimit sets the altitude, the speed or the performance of a leg.
func (c *change) setLimit() api.Errno {
	x := c.old.Entries[c.edit.At]
	if x.Gap {
		return api.ErrType
	}
	switch c.edit.Op {
	case api.SetAltitude:
		x.Leg.Alt = c.edit.Alt
	case api.SetSpeed:
		x.Leg.Speed = c.edit.Speed
	case api.SetRNP:
		x.Leg.RNP = c.edit.Dist
	}
	c.put(c.old.Entries[:c.edit.At], one(x), c.old.Entries[c.edit.At+1:])
	return api.OK
}

func (c *change) insertHold() api.Errno {
	l, at := c.old.Entries, c.edit.At
	x := l[at]
	if x.Gap || x.Leg.Type > api.AF {
		return api.ErrType
	}
	hold := api.Leg{Type: api.HM, Fix: x.Leg.Fix, Turn: c.edit.Turn, Course: c.edit.Course, Dist: c.edit.Dist, Alt: free()}
	c.put(l[:at+1], one(api.Entry{Leg: hold, End: x.End, Section: x.Section}), l[at+1:])
	return api.OK
}

func (c *change) joinAirway() api.Errno {
	l, at := c.old.Entries, c.edit.At
	if !endsAtFix(l[at]) {
		return api.ErrType
	}
	a, e := navdb.Airway(c.db, c.edit.Name)
	if e != api.OK {
		return e
	}
	points, e := airway.Expand(a, l[at].Leg.Fix, c.edit.Ref)
	if e != api.OK {
		return e
	}
	var legs []api.Leg
	for _, p := range points {
		legs = append(legs, api.Leg{Type: api.TF, Fix: p.Ref, Alt: p.Alt})
	}
	y, e := plan.Bind(c.db, legs, l[at].Section, c.edit.Name)
	if j := plan.Find(c.old, at+1, c.edit.Ref); j >= 0 {
		c.put(l[:at+1], y, l[j+1:])
	} else {
		c.put(l[:at+1], y, gap(), l[at+1:])
	}
	return e
}

func (c *change) divert() api.Errno {
	x := c.old.Entries[c.edit.At]
	if !endsAtFix(x) {
		return api.ErrType
	}
	ref, e := route.Place(c.db, c.edit.Name)
	if e != api.OK {
		return e
	}
	y, e := c.bind(api.TF, ref, x.Section)
	c.put(c.old.Entries[:c.edit.At+1], y)
	c.plan.To = c.edit.Name
	return e
}

// withRunway returns a place with another runway, if there is one.
func withRunway(place, runway string) string {
	if runway == "" {
		return place
	}
	airport, _, _ := strings.Cut(place, "/")
	return airport + "/" + runway
}

// via returns the source of the legs of the procedure that an edit names.
func (c *change) via() string {
	if c.edit.Trans == "" {
		return c.edit.Name
	}
	return c.edit.Name + "." + c.edit.Trans
}

// expand returns the procedure that an edit names, at a place, and its legs.
func (c *change) expand(place string, k api.ProcKind) (api.Procedure, []api.Leg, api.Errno) {
	airport, runway, _ := strings.Cut(place, "/")
	p, e := navdb.Procedure(c.db, airport, k, c.edit.Name)
	if e != api.OK {
		return api.Procedure{}, nil, e
	}
	legs, e := procedure.Expand(p, runway, c.edit.Trans)
	return p, legs, e
}

func (c *change) loadDeparture() api.Errno {
	if c.old.Active != -1 {
		return api.ErrState
	}
	if c.old.From == "" {
		return api.ErrNone
	}
	c.plan.From = withRunway(c.old.From, c.edit.Runway)
	_, legs, e := c.expand(c.plan.From, api.Departure)
	if e != api.OK {
		return e
	}
	ref, e := route.Place(c.db, c.plan.From)
	if e != api.OK {
		return e
	}
	legs = slices.Insert(legs, 0, api.Leg{Type: api.IF, Fix: ref, Alt: free()})
	y, e := plan.Bind(c.db, legs, api.SecDeparture, c.via())
	if e != api.OK {
		return e
	}
	rest := behindDeparture(c.old.Entries)
	last := y[len(y)-1]
	j := -1
	if endsAtFix(last) {
		j = plan.Find(api.Plan{Entries: rest}, 0, last.Leg.Fix)
	}
	if j >= 0 {
		c.put(y, rest[j+1:])
	} else {
		c.put(y, gap(), rest)
	}
	return api.OK
}

// behindDeparture returns the entries behind the last leg of a departure, or behind the initial fix.
func behindDeparture(l []api.Entry) []api.Entry {
	for i := len(l) - 1; i >= 0; i-- {
		if l[i].Section == api.SecDeparture {
			return l[i+1:]
		}
	}
	if len(l) > 0 && l[0].Leg.Type == api.IF {
		return l[1:]
	}
	return l
}

// load loads an arrival or an approach, whose legs belong to a section.
func (c *change) load(k api.ProcKind, s api.Section) api.Errno {
	if c.old.To == "" {
		return api.ErrNone
	}
	if a := c.old.Active; a != -1 && c.old.Entries[a].Section >= s {
		return api.ErrState
	}
	c.plan.To = withRunway(c.old.To, c.edit.Runway)
	p, legs, e := c.expand(c.plan.To, k)
	if e != api.OK {
		return e
	}
	y, e := plan.Bind(c.db, legs, s, c.via())
	if e != api.OK {
		return e
	}
	ref, e := route.Place(c.db, c.plan.To)
	if e != api.OK {
		return e
	}
	end, e := c.bind(api.TF, ref, s)
	if e != api.OK {
		return e
	}
	missed, e := plan.Bind(c.db, procedure.Missed(p), api.SecMissed, c.via())
	if e != api.OK {
		return e
	}
	c.put(c.ahead(s, y[0]), y, end, missed)
	return api.OK
}

// ahead returns the entries ahead of the legs of an arrival or approach, the first of which is given.
func (c *change) ahead(s api.Section, first api.Entry) []api.Entry {
	l := c.old.Entries
	if i := slices.IndexFunc(l, func(x api.Entry) bool { return x.Section >= s }); i >= 0 {
		l = l[:i]
	}
	if n := len(l) - 1; n >= 0 && n > c.old.Active && c.isDestination(l[n]) {
		l = l[:n]
	}
	if first.Leg.Fix != "" {
		if j := plan.Find(api.Plan{Entries: l}, c.old.Active, first.Leg.Fix); j >= 0 {
			return l[:j+1]
		}
	}
	return slices.Concat(l, gap())
}

// isDestination reports whether an entry is the leg to the destination that a route or an edit has put there.
func (c *change) isDestination(x api.Entry) bool {
	ref, e := route.Place(c.db, c.old.To)
	return e == api.OK && !x.Gap && x.Leg.Fix == ref && x.Via == ""
}
