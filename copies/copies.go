// Package copies copies structures, so that objects that keep them share no memory with what they were given.
package copies

import (
	"slices"

	"flightdeck/api"
)

// rows returns a copy of a table.
func rows(l [][]int64) [][]int64 {
	var copied [][]int64
	for _, row := range l {
		copied = append(copied, slices.Clone(row))
	}
	return copied
}

// Perf returns a copy of performance tables.
func Perf(p api.Perf) api.Perf {
	p.Alts, p.Masses = slices.Clone(p.Alts), slices.Clone(p.Masses)
	p.Climb, p.ClimbFlow, p.Cruise = rows(p.Climb), rows(p.ClimbFlow), rows(p.Cruise)
	p.Descent, p.Idle = slices.Clone(p.Descent), slices.Clone(p.Idle)
	p.MaxSpeed, p.MinSpeed = slices.Clone(p.MaxSpeed), slices.Clone(p.MinSpeed)
	return p
}

// DB returns a copy of a database.
func DB(db api.DB) api.DB {
	db.Fixes = slices.Clone(db.Fixes)
	db.Airways = slices.Clone(db.Airways)
	for i := range db.Airways {
		db.Airways[i].Points = slices.Clone(db.Airways[i].Points)
	}
	db.Procedures = slices.Clone(db.Procedures)
	for i := range db.Procedures {
		parts := slices.Clone(db.Procedures[i].Parts)
		for k := range parts {
			parts[k].Legs = slices.Clone(parts[k].Legs)
		}
		db.Procedures[i].Parts = parts
	}
	return db
}

// Setting returns a copy of a setting.
func Setting(s api.Setting) api.Setting {
	for i := range s.DBs {
		s.DBs[i] = DB(s.DBs[i])
	}
	s.Perf = Perf(s.Perf)
	s.Grid.Alts, s.Grid.Winds, s.Grid.Devs = slices.Clone(s.Grid.Alts), slices.Clone(s.Grid.Winds), slices.Clone(s.Grid.Devs)
	return s
}

// Happening returns a copy of what happens in a cycle.
func Happening(h api.Happening) api.Happening {
	h.Moment.Errors = slices.Clone(h.Moment.Errors)
	return h
}
