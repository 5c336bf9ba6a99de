package maintlog

import (
	"flightdeck/api"
	"flightdeck/crc"
)

// SlotSize is the number of bytes of a slot.
const SlotSize = 30

// Memory is a non-volatile memory of slots.
type Memory struct {
	bytes []byte
	off   bool
	armed bool // the power fails when left more bytes have been written
	left  int
}

// NewMemory returns an empty memory with so many slots.
func NewMemory(slots int) (*Memory, api.Errno) {
	if slots < 2 || slots > api.MaxSlots {
		return nil, api.ErrArg
	}
	return &Memory{bytes: make([]byte, slots*SlotSize)}, api.OK
}

// Slots returns the number of slots.
func (m *Memory) Slots() int {
	if m == nil {
		return 0
	}
	return len(m.bytes) / SlotSize
}

// Arm lets the power fail after n more bytes are written.
func (m *Memory) Arm(n int) {
	if m != nil {
		m.armed, m.left = true, max(n, 0)
	}
}

// Off reports whether the power has failed.
func (m *Memory) Off() bool { return m != nil && m.off }

// On switches the power on again.
func (m *Memory) On() {
	if m != nil {
		m.off, m.armed = false, false
	}
}

// Flip flips the bits of a pattern.
func (m *Memory) Flip(bit int, pattern uint32) api.Errno {
	if m == nil {
		return api.ErrArg
	}
	flipped, e := crc.Flip(m.bytes, bit, pattern)
	if e == api.OK {
		m.bytes = flipped
	}
	return e
}

// Bytes returns what the memory holds.
func (m *Memory) Bytes() []byte {
	if m == nil {
		return nil
	}
	held := make([]byte, len(m.bytes))
	copy(held, m.bytes)
	return held
}

// Clone returns an independent memory with the same bytes.
func (m *Memory) Clone() *Memory {
	if m == nil {
		return nil
	}
	c := *m
	c.bytes = m.Bytes()
	return &c
}

// write writes bytes from a place on, one after the other; ErrOff: the power is off, or fails before the last one.
func (m *Memory) write(at int, p ...byte) api.Errno {
	for i, b := range p {
		if m.armed && m.left == 0 {
			m.off, m.armed = true, false
		}
		if m.off {
			return api.ErrOff
		}
		if m.armed {
			m.left--
		}
		m.bytes[at+i] = b
	}
	return api.OK
}
