package route

import (
	"strings"

	"flightdeck/airway"
	"flightdeck/api"
	"flightdeck/fix"
	"flightdeck/leg"
	"flightdeck/line"
	"flightdeck/navdb"
	"flightdeck/plan"
	"flightdeck/procedure"
)

// expansion is a plan that is made from the items of a route.
type expansion struct {
	db      api.DB
	words   []string
	items   []api.Item
	airways map[string]bool
	entries []api.Entry
}

// free is the window that is no restriction.
func free() api.Window { return api.Window{Lo: api.MinAlt, Hi: api.MaxAlt} }

// Expand returns the plan of a route, or the index of the first wrong word and its error.
func Expand(db api.DB, s string) (api.Plan, int, api.Errno) {
	items, i, e := Parse(s)
	if e != api.OK {
		return api.Plan{}, i, e
	}
	x := &expansion{db: db, words: strings.Split(s, " "), items: items, airways: map[string]bool{}}
	for _, a := range db.Airways {
		x.airways[a.Name] = true
	}
	for i := 0; i < len(items); {
		next, at, e := x.item(i)
		if e != api.OK {
			return api.Plan{}, at, e
		}
		i = next
	}
	p := api.Plan{From: x.words[0], To: x.words[len(items)-1], Entries: x.entries, Active: -1}
	if e := plan.Check(p); e != api.OK {
		return api.Plan{}, len(items), e
	}
	return p, 0, api.OK
}

// item adds the entries of an item, and returns the index of the next one; with an error, the index of the word that has it.
func (x *expansion) item(i int) (next, at int, e api.Errno) {
	it := x.items[i]
	switch it.Kind {
	case api.OriginItem:
		return i + 1, i, x.origin()
	case api.DepartureItem:
		return i + 1, i, x.procedure(i, 0, api.Departure, api.SecDeparture)
	case api.ArrivalItem:
		return i + 1, i, x.procedure(i, len(x.items)-1, api.Arrival, api.SecArrival)
	case api.ApproachItem:
		return i + 1, i, x.procedure(i, len(x.items)-1, api.Approach, api.SecApproach)
	case api.FixItem:
		return i + 1, i, x.track(it.Name, api.SecEnroute)
	case api.NameItem:
		if x.airways[it.Name] {
			at, e := x.airway(i)
			return i + 2, at, e
		}
		ref, e := x.nearest(it.Name)
		if e != api.OK {
			return 0, i, e
		}
		return i + 1, i, x.track(ref, api.SecEnroute)
	case api.DestinationItem:
		at, e := x.destination(i)
		return i + 1, at, e
	}
	return i + 1, i, api.OK
}

// add binds legs and puts them behind the entries.
func (x *expansion) add(s api.Section, via string, legs ...api.Leg) api.Errno {
	l, e := plan.Bind(x.db, legs, s, via)
	if e == api.OK {
		x.entries = plan.Join(append(x.entries, l...))
	}
	return e
}

// track adds a track to a fix.
func (x *expansion) track(ref string, s api.Section) api.Errno {
	return x.add(s, "", api.Leg{Type: api.TF, Fix: ref, Alt: free()})
}

// source returns what a word says behind its mark.
func (x *expansion) source(i int) string { return x.words[i][len(departureMark):] }

func (x *expansion) origin() api.Errno {
	ref, e := Place(x.db, x.words[0])
	if e != api.OK {
		return e
	}
	section, via := api.SecEnroute, ""
	if x.items[1].Kind == api.DepartureItem {
		section, via = api.SecDeparture, x.source(1)
	}
	return x.add(section, via, api.Leg{Type: api.IF, Fix: ref, Alt: free()})
}

// procedure adds the legs of a procedure of the airport that the word at place names.
func (x *expansion) procedure(i, place int, k api.ProcKind, s api.Section) api.Errno {
	p, e := navdb.Procedure(x.db, x.items[place].Name, k, x.items[i].Name)
	if e != api.OK {
		return e
	}
	legs, e := procedure.Expand(p, x.items[place].Trans, x.items[i].Trans)
	if e != api.OK {
		return e
	}
	return x.add(s, x.source(i), legs...)
}

// airway adds the points of an airway from the fix ahead to the fix that the next word names; with an error it returns the index of the word that has it.
func (x *expansion) airway(i int) (int, api.Errno) {
	next := x.items[i+1]
	if next.Kind != api.FixItem && (next.Kind != api.NameItem || x.airways[next.Name]) {
		return i, api.ErrOrder
	}
	a, _ := navdb.Airway(x.db, x.items[i].Name)
	end := next.Name
	if next.Kind == api.NameItem {
		end = pointNamed(a, next.Name)
		if end == "" {
			return i + 1, api.ErrNone
		}
	}
	last := x.entries[len(x.entries)-1].Leg
	if !leg.Ends(last.Type) {
		return i, api.ErrOrder
	}
	points, e := airway.Expand(a, last.Fix, end)
	if e != api.OK {
		return i + 1, e
	}
	var legs []api.Leg
	for _, p := range points {
		legs = append(legs, api.Leg{Type: api.TF, Fix: p.Ref, Alt: p.Alt})
	}
	return i, x.add(api.SecEnroute, a.Name, legs...)
}

// pointNamed returns the reference of the first point of an airway with an identifier.
func pointNamed(a api.Airway, ident string) string {
	for _, p := range a.Points {
		if strings.HasPrefix(p.Ref, ident+"/") {
			return p.Ref
		}
	}
	return ""
}

// nearest returns the fix with an identifier that is nearest to the end of the last entry.
func (x *expansion) nearest(ident string) (string, api.Errno) {
	from := x.entries[len(x.entries)-1].End
	found, least := "", int64(0)
	for _, f := range x.db.Fixes {
		if f.Ident != ident {
			continue
		}
		ref := fix.Ref(f)
		p, e := navdb.Point(x.db, ref)
		if e != api.OK {
			continue
		}
		if d := line.Dist(from, p); found == "" || d < least {
			found, least = ref, d
		}
	}
	if found == "" {
		return "", api.ErrNone
	}
	return found, api.OK
}

// destination adds the destination, and the missed approach behind it; with an error it returns the index of the word that has it.
func (x *expansion) destination(i int) (int, api.Errno) {
	ref, e := Place(x.db, x.words[i])
	if e != api.OK {
		return i, e
	}
	if e := x.track(ref, x.entries[len(x.entries)-1].Section); e != api.OK {
		return i, e
	}
	ahead := x.items[i-1]
	if ahead.Kind != api.ApproachItem {
		return 0, api.OK
	}
	p, _ := navdb.Procedure(x.db, x.items[i].Name, api.Approach, ahead.Name)
	return i - 1, x.add(api.SecMissed, x.source(i-1), procedure.Missed(p)...)
}
