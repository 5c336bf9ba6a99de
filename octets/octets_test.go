package octets

import (
	"bytes"
	"math"
	"testing"
)

func TestRoundTrip(t *testing.T) {
	var w Writer
	w.Byte(7)
	w.Bool(true)
	w.Bool(false)
	w.Number(0x1234, 2)
	w.Int(-2)
	w.Text("AB", 1)
	w.Text("", 2)
	w.Raw([]byte{9, 8})
	want := []byte{7, 1, 0, 0x34, 0x12, 254, 255, 255, 255, 255, 255, 255, 255, 2, 'A', 'B', 0, 0, 9, 8}
	if !bytes.Equal(w.Bytes(), want) || w.Len() != len(want) {
		t.Fatalf("%v", w.Bytes())
	}
	w.Bytes()[0] = 99
	r := NewReader(w.Bytes())
	if r.Byte() != 7 || !r.Bool() || r.Bool() || r.Number(2) != 0x1234 || r.Int() != -2 || r.Text(1) != "AB" || r.Text(2) != "" || r.Left() != 2 || r.Done() || !bytes.Equal(r.Raw(2), []byte{9, 8}) || !r.Done() || r.Failed() {
		t.Errorf("the bytes are not read back")
	}
}

func TestFailures(t *testing.T) {
	for name, f := range map[string]func(r *Reader) bool{
		"Byte":   func(r *Reader) bool { return r.Byte() == 0 },
		"Bool":   func(r *Reader) bool { return !r.Bool() },
		"Int":    func(r *Reader) bool { return r.Int() == 0 },
		"Number": func(r *Reader) bool { return r.Number(2) == 0 },
		"Text":   func(r *Reader) bool { return r.Text(1) == "" },
		"Raw":    func(r *Reader) bool { return len(r.Raw(1)) == 0 },
	} {
		r := NewReader(nil)
		if !f(r) || !r.Failed() || r.Done() {
			t.Errorf("%s of nothing", name)
		}
		if !f(r) {
			t.Errorf("%s behind a failure", name)
		}
	}
	for _, p := range [][]byte{{2}, {5, 1, 2}} {
		r := NewReader(p)
		r.Bool()
		if !r.Failed() || r.Left() != 0 {
			t.Errorf("Bool of %v", p)
		}
	}
	r := NewReader([]byte{255, 255, 255, 255, 255, 255, 255, 255, 1})
	if r.Text(8) != "" || !r.Failed() {
		t.Errorf("a length that is too great")
	}
	r = NewReader([]byte{1})
	if r.Raw(-1) != nil || !r.Failed() {
		t.Errorf("a length below 0")
	}
	r = NewReader([]byte{1})
	if r.Raw(math.MaxInt) != nil || !r.Failed() {
		t.Errorf("a length above all")
	}
}
