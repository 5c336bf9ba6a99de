package cycle

import (
	"slices"

	"flightdeck/api"
	"flightdeck/calendar"
	"flightdeck/image"
)

// Store holds two databases: the active one and the standby.
type Store struct {
	// The databases are never changed, so that clones of a store may share them.
	active, standby *api.DB
}

// New returns a store without databases.
func New() *Store { return &Store{} }

// Load decodes an image into the standby.
func (s *Store) Load(p []byte) api.Errno {
	if s == nil {
		return api.ErrArg
	}
	db, e := image.Decode(p)
	if e != api.OK {
		return e
	}
	if s.active != nil && s.active.Header.Cycle == db.Header.Cycle {
		return api.ErrExists
	}
	s.standby = &db
	return api.OK
}

// Swap exchanges the active database and the standby.
func (s *Store) Swap(day int64) api.Errno {
	switch {
	case s == nil:
		return api.ErrArg
	case s.standby == nil:
		return api.ErrNone
	case !effective(s.standby, day):
		return api.ErrCycle
	}
	s.active, s.standby = s.standby, s.active
	return api.OK
}

// effective reports whether there is a database and it is effective on a day.
func effective(db *api.DB, day int64) bool {
	return db != nil && db.Header.From <= day && day < db.Header.To
}

// Active returns the active database.
func (s *Store) Active() (api.DB, api.Errno) {
	if s == nil {
		return api.DB{}, api.ErrArg
	}
	return shown(s.active)
}

// Standby returns the standby.
func (s *Store) Standby() (api.DB, api.Errno) {
	if s == nil {
		return api.DB{}, api.ErrArg
	}
	return shown(s.standby)
}

// shown returns a copy of a database.
func shown(db *api.DB) (api.DB, api.Errno) {
	if db == nil {
		return api.DB{}, api.ErrNone
	}
	c := api.DB{Header: db.Header, Fixes: slices.Clone(db.Fixes), Airways: slices.Clone(db.Airways), Procedures: slices.Clone(db.Procedures)}
	for i := range c.Airways {
		c.Airways[i].Points = slices.Clone(c.Airways[i].Points)
	}
	for i := range c.Procedures {
		parts := slices.Clone(c.Procedures[i].Parts)
		for k := range parts {
			parts[k].Legs = slices.Clone(parts[k].Legs)
		}
		c.Procedures[i].Parts = parts
	}
	return c, api.OK
}

// Effective reports whether the active database is effective on a day.
func (s *Store) Effective(day int64) bool { return s != nil && effective(s.active, day) }

// Due reports whether the standby is effective on a day and the active database is not.
func (s *Store) Due(day int64) bool {
	return s != nil && effective(s.standby, day) && !effective(s.active, day)
}

// Text returns a line on both databases on a day.
func (s *Store) Text(day int64) string {
	if s == nil {
		return ""
	}
	return line(s.active, day) + "\n" + line(s.standby, day) + "\n"
}

// line returns the line of a database.
func line(db *api.DB, day int64) string {
	if db == nil {
		return "NONE"
	}
	h := db.Header
	number, _ := calendar.CycleText(h.Cycle)
	from, _ := calendar.DateText(h.From)
	last, e := calendar.DateText(h.To - 1)
	if e != api.OK {
		last = "-"
	}
	state := "EFFECTIVE"
	if day < h.From {
		state = "EARLY"
	} else if day >= h.To {
		state = "EXPIRED"
	}
	return h.Name + " " + number + " " + from + " " + last + " " + state
}

// Clone returns an independent store with the same databases.
func (s *Store) Clone() *Store {
	if s == nil {
		return nil
	}
	c := *s
	return &c
}
