package machine

import "testing"

// TestMeter: it says that it has run out when all is done, not ahead of that.
func TestMeter(t *testing.T) {
	for fuel := range 4 {
		g := newMeter(fuel)
		for done := range fuel {
			if g.hasRunOut() || g.done != done {
				t.Errorf("P9: of %d, %d are done, and it has run out", fuel, g.done)
			}
			g.count()
		}
		if !g.hasRunOut() || g.done != fuel {
			t.Errorf("P9: of %d, %d are done, and it has not run out", fuel, g.done)
		}
	}
}

// TestMeterWaitsForNobody: it may be asked late, or never.
func TestMeterWaitsForNobody(t *testing.T) {
	g := newMeter(2)
	for range 5 {
		g.count()
	}
	if !g.hasRunOut() {
		t.Error("P9: it has run out, and does not say so")
	}
}
