package atrium_test

import (
	"math/rand"
	"strings"
	"testing"

	"atrium/api"
	"atrium/atrium"
)

// small has each kind of thing that bytes say, in few of them.
func small() string {
	c := full()
	c.Methods = c.Methods[:widest]
	return rawBytes(c)
}

func TestCutBytes(t *testing.T) {
	for _, s := range []string{exampleBytes, small()} {
		for i := range len(s) {
			refused(t, "the first bytes alone", s[:i])
			asDecoded(t, s[:i]+s[i+1:])
			asDecoded(t, s[:i]+"\x00"+s[i:])
		}
	}
}

func TestMoreBytes(t *testing.T) {
	for _, more := range []string{"\x00", "\x01", "C", exampleBytes, strings.Repeat("\x00", 1<<16)} {
		refused(t, "something behind", exampleBytes+more)
		refused(t, "something ahead", more+exampleBytes)
	}
}

func TestFront(t *testing.T) {
	for _, front := range []string{"", "CLA", "clas", "CLAT", "\x00\x00\x00\x00", "CLASS"} {
		refused(t, "another front", front+exampleBytes[len("CLAS"):])
	}
}

func TestStaticByte(t *testing.T) {
	of := func(b byte) string {
		return "CLAS\x01A\x01B\x01\x01f" + string([]byte{b}) + "\x01\x00"
	}
	ofMethod := func(b byte) string {
		return "CLAS\x01A\x01B\x00\x01\x01m" + string([]byte{b}) + "\x00\x00\x01\x00\x01\x00\x16\x00\x00"
	}
	for b := range 2 {
		c, e := atrium.Decode(of(byte(b)))
		if e != api.OK || c.Fields[0].Static != (b == 1) {
			t.Errorf("P4: a field's static byte %d: %v, %d", b, c, e)
		}
		c, e = atrium.Decode(ofMethod(byte(b)))
		if e != api.OK || c.Methods[0].Static != (b == 1) {
			t.Errorf("P4: a method's static byte %d: %v, %d", b, c, e)
		}
	}
	for b := 2; b < 256; b++ {
		refused(t, "a field's static byte", of(byte(b)))
		refused(t, "a method's static byte", ofMethod(byte(b)))
	}
}

// TestEveryByteChanged: whatever a byte becomes, Decode answers a class only if these are its bytes.
func TestEveryByteChanged(t *testing.T) {
	for _, s := range []string{exampleBytes, small()} {
		for i := range len(s) {
			for b := range 256 {
				asDecoded(t, s[:i]+string([]byte{byte(b)})+s[i+1:])
			}
		}
	}
}

func TestManyBytesChanged(t *testing.T) {
	from := rand.New(rand.NewSource(1))
	for range 5000 {
		b := []byte(small())
		for range 1 + from.Intn(4) {
			b[from.Intn(len(b))] = byte(from.Intn(40))
		}
		asDecoded(t, string(b))
	}
}

// asDecoded asks that s is refused, or is the bytes of what comes out, written by Encode and by hand.
func asDecoded(t *testing.T, s string) {
	t.Helper()
	c, e := atrium.Decode(s)
	if e != api.OK {
		refused(t, "changed bytes", s)
		return
	}
	if again, e := atrium.Encode(c); again != s || e != api.OK || rawBytes(c) != s {
		t.Errorf("P4: Decode of %q, written again: %q, %d", s, again, e)
	}
}

func FuzzDecode(f *testing.F) {
	f.Add("")
	f.Add(exampleBytes)
	f.Add(small())
	f.Add(rawBytes(full()))
	f.Fuzz(asDecoded)
}
