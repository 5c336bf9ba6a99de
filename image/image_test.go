package image

import (
	"bytes"
	"reflect"
	"slices"
	"testing"

	"flightdeck/api"
	"flightdeck/crc"
	"flightdeck/navdb"
)

const small = "DATABASE WEST 2612 N46000000W120000000\n"

const source = small + `WAYPOINT A K1 N46000000W120000000
AIRPORT KSEA K1 N47000000W121000000 -432.50
VOR SEA K1 N47000000W121050000 130+45
AIRWAY V1
VIA A/K1 5000+ BACKWARD
VIA SEA/K1
DEPARTURE KSEA SUMMA2
PART COMMON
LEG IF A/K1
LEG TF KSEA/K1 over 5000:9000 s250 n1
PART ENROUTE BTG
LEG IF A/K1
LEG RF SEA/K1 @KSEA/K1 L r3
LEG CR @SEA/K1 160000000 t000000001
`

func compiled(t *testing.T, src string) api.DB {
	t.Helper()
	db, diags := navdb.Compile(src)
	if len(diags) > 0 {
		t.Fatal(diags)
	}
	return db
}

func encoded(t *testing.T, db api.DB) []byte {
	t.Helper()
	p, e := Encode(db)
	if e != api.OK {
		t.Fatal(e)
	}
	return p
}

// P19.1: the bytes of a small image.
func TestBytes(t *testing.T) {
	p := encoded(t, compiled(t, small))
	number := func(v int64) []byte {
		var b []byte
		for i := range 8 {
			b = append(b, byte(v>>(8*i)))
		}
		return b
	}
	want := slices.Concat([]byte("FDB1\x01\x2d\x00\x00\x00\x04WEST"), number(2612), number(9826), number(9854), number(46*api.Degree), number(-120*api.Degree),
		[]byte("\x02\x02\x00\x00\x00\x00\x00\x03\x02\x00\x00\x00\x00\x00\x04\x02\x00\x00\x00\x00\x00"))
	if !bytes.Equal(p, crc.Seal(want)) || len(p) != 79 {
		t.Errorf("% x", p)
	}
	sections, e := Sections(p)
	if !slices.Equal(sections, []Section{{1, 9, 45, 1}, {2, 59, 2, 0}, {3, 66, 2, 0}, {4, 73, 2, 0}}) || e != api.OK {
		t.Errorf("%v, %v", sections, e)
	}
	// A fix, a point and a leg, byte by byte.
	p = encoded(t, compiled(t, source))
	for _, part := range [][]byte{
		slices.Concat([]byte("\x04KSEA\x02K1\x05"), number(47*api.Degree), number(-121*api.Degree), number(-43_250), number(0)),
		slices.Concat([]byte("\x02V1\x02\x00\x04A/K1"), number(500_000), number(api.MaxAlt), []byte("\x02\x06SEA/K1"), number(api.MinAlt), number(api.MaxAlt), []byte{0}),
		slices.Concat([]byte("\x04KSEA\x06SUMMA2\x01\x02\x00\x02\x00\x02\x00\x01\x04A/K1\x00\x00\x00")),
		slices.Concat([]byte("\x02\x07KSEA/K1\x00\x00\x01"), number(0), number(0), number(0), number(0), number(500_000), number(900_000), number(250), number(6000)),
		slices.Concat([]byte("\x03\x03BTG\x03\x00")),
		slices.Concat([]byte("\x05\x06SEA/K1\x07KSEA/K1\x01\x00"), number(0), number(0), number(18_000), number(0)),
		slices.Concat([]byte("\x0a\x00\x06SEA/K1\x00\x00"), number(160*api.Degree), number(0), number(0), number(1)),
	} {
		if !bytes.Contains(p, part) {
			t.Errorf("the image does not contain % x", part)
		}
	}
}

// P19.1, P19.2, P19.3
func TestRoundTrip(t *testing.T) {
	for _, src := range []string{small, source} {
		db := compiled(t, src)
		p := encoded(t, db)
		keep := bytes.Clone(p)
		got, e := Decode(p)
		if !reflect.DeepEqual(got, db) || e != api.OK || Verify(p) != api.OK || !bytes.Equal(p, keep) {
			t.Errorf("Decode: %v, %v", got, e)
		}
		h, e := Header(p)
		if h != db.Header || e != api.OK {
			t.Errorf("Header: %v, %v", h, e)
		}
		sections, e := Sections(p)
		if e != api.OK || len(sections) != 4 || sections[1].Count != len(db.Fixes) || sections[2].Count != len(db.Airways) || sections[3].Count != len(db.Procedures) || sections[3].Offset+sections[3].Length != len(p)-4 {
			t.Errorf("Sections: %v, %v", sections, e)
		}
	}
	bad := compiled(t, source)
	bad.Fixes[0].Elev = 5
	if p, e := Encode(bad); len(p) != 0 || e != api.ErrArg {
		t.Errorf("Encode of a database that is not valid: %v, %v", p, e)
	}
}

func refused(t *testing.T, name string, p []byte, want, form api.Errno) {
	t.Helper()
	db, e := Decode(p)
	if !reflect.DeepEqual(db, api.DB{}) || e != want || Verify(p) != want {
		t.Errorf("%s: %v, want %v", name, e, want)
	}
	s, e := Sections(p)
	h, f := Header(p)
	if e != form || f != form || form != api.OK && (len(s) > 0 || h != api.Header{}) {
		t.Errorf("%s: Sections %v, %v, Header %v, %v", name, s, e, h, f)
	}
}

// P19.2, P19.3
func TestErrors(t *testing.T) {
	p := encoded(t, compiled(t, source))
	content, _ := crc.Open(p)
	refused(t, "three bytes", p[:3], api.ErrForm, api.ErrForm)
	refused(t, "four zero bytes", make([]byte, 4), api.ErrForm, api.ErrForm)
	refused(t, "FDB1", crc.Seal([]byte("FDB1")), api.ErrForm, api.ErrForm)
	refused(t, "no checksum", p[:len(p)-1], api.ErrSum, api.ErrSum)
	for n := range content {
		refused(t, "cut off", crc.Seal(content[:n]), api.ErrForm, api.ErrForm)
	}
	refused(t, "left over", crc.Seal(append(bytes.Clone(content), 0)), api.ErrForm, api.ErrForm)
	sections, _ := Sections(p)
	changed := func(at int, v byte) []byte {
		c := bytes.Clone(content)
		c[at] = v
		return crc.Seal(c)
	}
	refused(t, "another magic", changed(3, '2'), api.ErrForm, api.ErrForm)
	for _, s := range sections {
		refused(t, "another tag", changed(s.Offset-5, s.Tag+1), api.ErrForm, api.ErrForm)
		refused(t, "another length", changed(s.Offset-4, byte(s.Length+1)), api.ErrForm, api.ErrForm)
		refused(t, "a length too great", changed(s.Offset-1, 1), api.ErrForm, api.ErrForm)
	}
	over := bytes.Index(content, []byte("\x02\x07KSEA/K1\x00\x00\x01")) + 11
	refused(t, "Over 2", changed(over, 2), api.ErrForm, api.ErrForm)
}

// P19.2: what has the form, but means a database that is not valid.
func TestDatabaseErrors(t *testing.T) {
	content, _ := crc.Open(encoded(t, compiled(t, source)))
	at := bytes.Index(content, []byte("\x02V1"))
	bad := bytes.Clone(content)
	bad[at+1] = 'v'
	refused(t, "another name", crc.Seal(bad), api.ErrName, api.OK)
	bad = bytes.Clone(content)
	bad[14] = 0x33
	refused(t, "another cycle", crc.Seal(bad), api.ErrCycle, api.OK)
}

func TestOver0(t *testing.T) {
	db := compiled(t, source)
	db.Procedures[0].Parts[0].Legs[1].Over = false
	if got, e := Decode(encoded(t, db)); !reflect.DeepEqual(got, db) || e != api.OK {
		t.Errorf("%v", e)
	}
}

// P19.4
func TestBursts(t *testing.T) {
	p := encoded(t, compiled(t, source))
	for bit := range 8 * len(p) {
		for _, pattern := range []uint32{1, 0x80000001, 0xFFFFFFFF, 0xEDB88320, 5} {
			q, e := crc.Flip(p, bit, pattern)
			if e != api.OK {
				continue
			}
			if _, e := Decode(q); e != api.ErrSum {
				t.Errorf("the burst %x at %d: %v", pattern, bit, e)
			}
		}
	}
}
