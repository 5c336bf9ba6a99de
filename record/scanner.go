package record

import (
	"slices"

	"flightdeck/angle"
	"flightdeck/api"
)

// Scanner takes the fields of a record one by one.
type Scanner struct {
	number int
	fields []api.Field
	taken  int
	last   int // column of the field that was taken last
	column int // of the first error
	code   api.Errno
}

// Scan returns a scanner at the first field of a record.
func Scan(l api.Line) *Scanner {
	return &Scanner{number: l.Number, fields: slices.Clone(l.Fields), last: 1}
}

// Left returns how many fields are not taken yet.
func (s *Scanner) Left() int {
	if s == nil || s.code != api.OK {
		return 0
	}
	return len(s.fields) - s.taken
}

// take takes the next field and reads it; an error is noted at the field, or behind the last one if none is left.
func take[T any](s *Scanner, read func(string) (T, api.Errno)) (T, bool) {
	var none T
	if s == nil || s.code != api.OK {
		return none, false
	}
	if s.taken == len(s.fields) {
		s.note(s.behind(), api.ErrForm)
		return none, false
	}
	f := s.fields[s.taken]
	s.taken++
	s.last = f.Column
	v, e := read(f.Text)
	if e != api.OK {
		s.note(f.Column, e)
		return none, false
	}
	return v, true
}

// note notes the first error.
func (s *Scanner) note(column int, e api.Errno) { s.column, s.code = column, e }

// behind returns the column behind the last field.
func (s *Scanner) behind() int {
	if len(s.fields) == 0 {
		return 1
	}
	f := s.fields[len(s.fields)-1]
	return f.Column + len(f.Text)
}

// Field takes the next field.
func (s *Scanner) Field() string {
	text, _ := take(s, func(text string) (string, api.Errno) { return text, api.OK })
	return text
}

// Word takes the next field and returns its index among the words.
func (s *Scanner) Word(words ...string) int {
	i, ok := take(s, func(text string) (int, api.Errno) {
		i := slices.Index(words, text)
		if i < 0 {
			return 0, api.ErrForm
		}
		return i, api.OK
	})
	if !ok {
		return -1
	}
	return i
}

// Name takes a name of at most so many bytes.
func (s *Scanner) Name(most int) string {
	name, _ := take(s, func(text string) (string, api.Errno) {
		if !Name(text, most) {
			return "", api.ErrName
		}
		return text, api.OK
	})
	return name
}

// Number takes a decimal number from low to high.
func (s *Scanner) Number(low, high int64) int64 {
	n, _ := take(s, func(text string) (int64, api.Errno) { return ParseNumber(text, low, high) })
	return n
}

// Pos takes a position.
func (s *Scanner) Pos() api.Pos {
	p, _ := take(s, angle.ParsePos)
	return p
}

// Alt takes an altitude.
func (s *Scanner) Alt() int64 {
	alt, _ := take(s, ParseAlt)
	return alt
}

// Window takes an altitude window.
func (s *Scanner) Window() api.Window {
	w, _ := take(s, ParseWindow)
	return w
}

// Dist takes a distance.
func (s *Scanner) Dist() int64 {
	d, _ := take(s, ParseDist)
	return d
}

// Rest takes all fields that are left and returns them with one blank between any two.
func (s *Scanner) Rest() string {
	if s.Left() == 0 {
		return ""
	}
	rest := s.fields[s.taken:]
	s.last = rest[0].Column
	s.taken = len(s.fields)
	return texts(rest)
}

// Fail notes an error at the field that was taken last.
func (s *Scanner) Fail(e api.Errno) {
	if s != nil && s.code == api.OK {
		s.note(s.last, e)
	}
}

// End returns the diagnostic of the record, and whether there is one.
func (s *Scanner) End() (api.Diag, bool) {
	switch {
	case s == nil:
		return api.Diag{}, false
	case s.code != api.OK:
		return api.Diag{Line: s.number, Column: s.column, Code: s.code}, true
	case s.taken < len(s.fields):
		return api.Diag{Line: s.number, Column: s.fields[s.taken].Column, Code: api.ErrForm}, true
	}
	return api.Diag{}, false
}
