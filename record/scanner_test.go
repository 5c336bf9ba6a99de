package record

import (
	"testing"

	"flightdeck/api"
)

// line returns the record with the number 7 of a text.
func line(s string) api.Line {
	fields, _, _ := Split(s)
	return api.Line{Number: 7, Fields: fields}
}

func ends(t *testing.T, name string, s *Scanner, column int, code api.Errno) {
	t.Helper()
	d, failed := s.End()
	if code == api.OK && (failed || d != (api.Diag{})) || code != api.OK && (!failed || d != api.Diag{Line: 7, Column: column, Code: code}) {
		t.Errorf("%s: %v, %v, want column %d, %v", name, d, failed, column, code)
	}
	if e, f := s.End(); e != d || f != failed {
		t.Errorf("%s: End changes something", name)
	}
}

// P8.8: a record with a field of every form.
func TestTake(t *testing.T) {
	s := Scan(line("any SET NAME1 -12 N01000000E002000000 5000.25 3000:5000 1+5"))
	if s.Left() != 8 {
		t.Errorf("Left: %d", s.Left())
	}
	if f := s.Field(); f != "any" {
		t.Errorf("Field: %s", f)
	}
	if w := s.Word("GET", "SET", "SET"); w != 1 {
		t.Errorf("Word: %d", w)
	}
	if n := s.Name(5); n != "NAME1" {
		t.Errorf("Name: %s", n)
	}
	if n := s.Number(-12, 5); n != -12 {
		t.Errorf("Number: %d", n)
	}
	ends(t, "in between", s, 19, api.ErrForm)
	if p := s.Pos(); p != (api.Pos{Lat: api.Degree, Lon: 2 * api.Degree}) {
		t.Errorf("Pos: %v", p)
	}
	if a := s.Alt(); a != 500_025 {
		t.Errorf("Alt: %d", a)
	}
	if w := s.Window(); w != (api.Window{Lo: 300_000, Hi: 500_000}) {
		t.Errorf("Window: %v", w)
	}
	if d := s.Dist(); d != 6005 || s.Left() != 0 {
		t.Errorf("Dist: %d, left %d", d, s.Left())
	}
	ends(t, "at the end", s, 0, api.OK)
}

// takers call one method each and report whether it returned its zero value.
func takers() map[string]func(s *Scanner) bool {
	return map[string]func(s *Scanner) bool{
		"Field":  func(s *Scanner) bool { return s.Field() == "" },
		"Word":   func(s *Scanner) bool { return s.Word("A", "B") == -1 },
		"Name":   func(s *Scanner) bool { return s.Name(3) == "" },
		"Number": func(s *Scanner) bool { return s.Number(1, 9) == 0 },
		"Pos":    func(s *Scanner) bool { return s.Pos() == api.Pos{} },
		"Alt":    func(s *Scanner) bool { return s.Alt() == 0 },
		"Window": func(s *Scanner) bool { return s.Window() == api.Window{} },
		"Dist":   func(s *Scanner) bool { return s.Dist() == 0 },
		"Rest":   func(s *Scanner) bool { return s.Rest() == "" },
	}
}

// P8.8: errors, a missing field, the first error alone, and nil.
func TestTakeErrors(t *testing.T) {
	for _, c := range []struct {
		method, s string
		code      api.Errno
	}{
		{"Word", "C", api.ErrForm}, {"Name", "ABCD", api.ErrName}, {"Name", "a", api.ErrName}, {"Number", "x", api.ErrForm}, {"Number", "10", api.ErrRange}, {"Number", "0", api.ErrRange},
		{"Pos", "N01000000", api.ErrForm}, {"Pos", "N91000000E002000000", api.ErrRange}, {"Alt", "5.00", api.ErrForm}, {"Alt", "60001", api.ErrRange}, {"Window", "5:5", api.ErrForm}, {"Window", "6:5", api.ErrOrder}, {"Window", "60001", api.ErrRange}, {"Dist", "1+0", api.ErrForm}, {"Dist", "2000", api.ErrRange},
	} {
		s := Scan(line("A  " + c.s + " B"))
		s.Field()
		if !takers()[c.method](s) {
			t.Errorf("%s of %s returns a value", c.method, c.s)
		}
		ends(t, c.method, s, 4, c.code)
		for name, take := range takers() {
			if !take(s) || s.Left() != 0 {
				t.Errorf("%s behind an error returns a value", name)
			}
		}
		s.Fail(api.ErrFull)
		ends(t, c.method, s, 4, c.code)
	}
	for name, take := range takers() {
		for text, column := range map[string]int{"": 1, " AB": 4} {
			s := Scan(line(text))
			for s.Left() > 0 {
				s.Field()
			}
			if !take(s) {
				t.Errorf("%s of nothing returns a value", name)
			}
			if name == "Rest" {
				ends(t, name, s, 0, api.OK)
			} else {
				ends(t, name, s, column, api.ErrForm)
			}
		}
		var none *Scanner
		if !take(none) {
			t.Errorf("%s of nil returns a value", name)
		}
	}
	var none *Scanner
	none.Fail(api.ErrArg)
	if d, failed := none.End(); failed || d != (api.Diag{}) || none.Left() != 0 {
		t.Errorf("nil: %v, %v", d, failed)
	}
}

// P8.9
func TestRestFail(t *testing.T) {
	s := Scan(line("A  B   C"))
	s.Field()
	if r := s.Rest(); r != "B C" || s.Left() != 0 {
		t.Errorf("Rest: %s, left %d", r, s.Left())
	}
	ends(t, "Rest", s, 0, api.OK)
	if s.Rest() != "" {
		t.Errorf("Rest again")
	}
	s.Fail(api.OK)
	ends(t, "Fail of OK", s, 0, api.OK)
	s.Fail(api.ErrGeom)
	ends(t, "Fail behind Rest", s, 4, api.ErrGeom)
	s = Scan(line("  A B"))
	s.Fail(api.ErrState)
	ends(t, "Fail at the beginning", s, 1, api.ErrState)
	s = Scan(line("  A B C"))
	s.Field()
	s.Field()
	s.Fail(api.ErrOrder)
	s.Fail(api.ErrState)
	ends(t, "Fail", s, 5, api.ErrOrder)
	s = Scan(line("  A B C"))
	s.Field()
	ends(t, "fields left", s, 5, api.ErrForm)
	ends(t, "no fields", Scan(api.Line{Number: 7}), 0, api.OK)
}

func TestScanExamples(t *testing.T) {
	s := Scan(line("SET 12"))
	if s.Word("GET", "SET") != 1 || s.Number(0, 9) != 0 {
		t.Errorf("first")
	}
	ends(t, "first", s, 5, api.ErrRange)
	s = Scan(line("SET 12"))
	if s.Word("GET", "SET") != 1 || s.Number(0, 99) != 12 || s.Name(8) != "" {
		t.Errorf("second")
	}
	ends(t, "second", s, 7, api.ErrForm)
}

// A scanner keeps nothing of its argument.
func TestScanKeeps(t *testing.T) {
	l := line("A B")
	s := Scan(l)
	l.Fields[0].Text = "X"
	if s.Field() != "A" {
		t.Errorf("the scanner shares memory with its record")
	}
}
