package windgrid

import (
	"strconv"
	"strings"

	"flightdeck/api"
	"flightdeck/record"
)

// Text returns the text form of a grid.
func Text(g api.Grid) (string, api.Errno) {
	if e := Check(g); e != api.OK {
		return "", e
	}
	var b strings.Builder
	b.WriteString(line("GRID", g.Corner.X, g.Corner.Y, g.Cell, int64(g.NX), int64(g.NY), g.Err))
	points := g.NX * g.NY
	for z, alt := range g.Alts {
		s, _ := record.AltText(alt)
		b.WriteString("LEVEL " + s + "\n")
		for i := z * points; i < (z+1)*points; i++ {
			b.WriteString(line("WIND", g.Winds[i].East, g.Winds[i].North, g.Devs[i]))
		}
	}
	return b.String(), api.OK
}

// line returns a line of a word and numbers.
func line(word string, l ...int64) string {
	for _, v := range l {
		word += " " + strconv.FormatInt(v, 10)
	}
	return word + "\n"
}

// parser has the grid that was read, and how many points of its last level are missing.
type parser struct {
	grid    api.Grid
	missing int
}

// take takes a record, and returns its diagnostic.
func (p *parser) take(l api.Line, first bool) (api.Diag, bool) {
	s := record.Scan(l)
	switch {
	case first:
		p.takeGrid(s)
	case p.missing > 0:
		p.takeWind(s)
	default:
		p.takeLevel(s)
		n := len(p.grid.Alts)
		if d, failed := s.End(); failed {
			return d, true
		}
		if n > 1 && p.grid.Alts[n-1] <= p.grid.Alts[n-2] {
			return api.Diag{Line: l.Number, Column: l.Fields[0].Column, Code: api.ErrOrder}, true
		}
	}
	return s.End()
}

func (p *parser) takeGrid(s *record.Scanner) {
	s.Word("GRID")
	p.grid.Corner = api.Point{X: s.Number(-api.MaxXY, api.MaxXY), Y: s.Number(-api.MaxXY, api.MaxXY)}
	p.grid.Cell = s.Number(1, api.MaxXY)
	p.grid.NX, p.grid.NY = int(s.Number(1, MaxSide)), int(s.Number(1, MaxSide))
	p.grid.Err = s.Number(0, MaxErr)
}

func (p *parser) takeLevel(s *record.Scanner) {
	s.Word("LEVEL")
	if len(p.grid.Alts) == MaxLevels {
		s.Fail(api.ErrLimit)
	}
	p.grid.Alts = append(p.grid.Alts, s.Alt())
	p.missing = p.grid.NX * p.grid.NY
}

func (p *parser) takeWind(s *record.Scanner) {
	s.Word("WIND")
	p.grid.Winds = append(p.grid.Winds, api.Wind{East: s.Number(-maxPart, maxPart), North: s.Number(-maxPart, maxPart)})
	p.grid.Devs = append(p.grid.Devs, s.Number(-MaxDev, MaxDev))
	p.missing--
}

// Parse returns the grid of a text, and its diagnostics.
func Parse(s string) (api.Grid, []api.Diag) {
	records, diags := record.Read(s)
	if len(diags) > 0 {
		return api.Grid{}, diags
	}
	p := &parser{}
	behind := 1
	for i, l := range records {
		if d, failed := p.take(l, i == 0); failed {
			return api.Grid{}, []api.Diag{d}
		}
		behind = l.Number + 1
	}
	if len(p.grid.Alts) == 0 || p.missing > 0 {
		return api.Grid{}, []api.Diag{{Line: behind, Column: 1, Code: api.ErrForm}}
	}
	return p.grid, nil
}
