package wire_test

import (
	"testing"

	"atrium/api"
	"atrium/wire"
)

// givenUp is what some work was given up with, or nil.
func givenUp(work func()) (with any) {
	defer func() { with = recover() }()
	work()
	return nil
}

// laid are the bytes of a class, by hand, with a handler, a frame and each kind of operand.
const laid = "CLAS\x01A\x06Object" +
	"\x01\x01f\x01\x03\x01B" +
	"\x01\x01m\x01\x01\x01\x02\x02\x01\x08\x00" +
	"\x01\xff\xfe\xfd\xfc\xfb\xfa\xf9\xf8" +
	"\x02\x01" +
	"\x0a\x07\x00" +
	"\x0f\x01B" +
	"\x10\x01B\x01f\x02" +
	"\x15\x01B\x01m\x02\x01\x03\x01C\x00" +
	"\x0e" +
	"\x17" +
	"\x01\x00\x00\x08\x00\x07\x00\x00" +
	"\x01\x07\x00\x02\x04\x05\x01\x02"

func TestWriteWhatWasRead(t *testing.T) {
	c := wire.Read(laid)
	code := c.Methods[0].Code
	if n := code[0].N; n != -0x0706050403020101 {
		t.Errorf("P4: Push of %x", n)
	}
	if r := code[5].Ref; r.Class != "B" || r.Name != "m" || len(r.Params) != 2 || r.Params[1].Class != "C" || r.Type.Kind != api.Void {
		t.Errorf("P4: Call of %v", r)
	}
	if h := c.Methods[0].Handlers; len(h) != 1 || h[0] != (api.Handler{From: 0, To: 8, At: 7}) {
		t.Errorf("P4: the handlers %v", h)
	}
	if f := c.Methods[0].Frames; len(f) != 1 || f[0].At != 7 || len(f[0].Locals) != 2 || f[0].Locals[1].Kind != api.Null || len(f[0].Stack) != 1 {
		t.Errorf("P4: the frames %v", f)
	}
	if s := wire.Write(c); s != laid {
		t.Errorf("P3: written again: %q, want %q", s, laid)
	}
}

// TestGivenUpOnPurpose: whatever the bytes, it is the reader that gives up, not
// the language at an index that is out of range.
func TestGivenUpOnPurpose(t *testing.T) {
	for i := range len(laid) {
		if with := givenUp(func() { wire.Read(laid[:i]) }); with != api.ErrForm {
			t.Errorf("P4: the first %d bytes are given up on with %v", i, with)
		}
		for b := range 256 {
			s := laid[:i] + string([]byte{byte(b)}) + laid[i+1:]
			if with := givenUp(func() { wire.Read(s) }); with != nil && with != api.ErrForm {
				t.Errorf("P4: the byte %d at %d is given up on with %v", b, i, with)
			}
		}
	}
	if with := givenUp(func() { wire.Write(api.Class{}) }); with != api.ErrForm {
		t.Errorf("P3: what is no class is given up on with %v", with)
	}
}

// TestLongListsAreGivenUpOnEarly: no room is made for what a class may not have.
func TestLongListsAreGivenUpOnEarly(t *testing.T) {
	long := "CLAS\x01A\x01B\x00\x01\x01m\x01\x00\x00\x00\x00\xff\xff" + string(make([]byte, 0xffff)) + "\x00\x00"
	made := testing.AllocsPerRun(5, func() { givenUp(func() { wire.Read(long) }) })
	if made > 20 {
		t.Errorf("P4: %v pieces of memory for a code that is too long", made)
	}
}
