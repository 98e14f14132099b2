package atrium_test

import (
	"slices"
	"strconv"
	"strings"
	"testing"

	"atrium/api"
	"atrium/atrium"
)

// lastPrinted: the last event and how it ended.
func lastPrinted(t *testing.T, s api.Script) string {
	t.Helper()
	r, e := atrium.Run(s)
	if e != api.OK {
		t.Errorf("Run: the error %d", e)
	}
	all := events(r)
	return strings.Join(append(all[max(0, len(all)-1):], strings.Fields(ending(r))[0]), " ")
}

// withFuel tells what comes of a script with 0, 1, 2 .. of fuel.
func withFuel(t *testing.T, why string, s api.Script, want ...string) {
	t.Helper()
	for fuel, w := range want {
		s.Fuel = fuel
		runs(t, "P9: "+why+": fuel "+strconv.Itoa(fuel), s, w)
	}
}

func TestFuel(t *testing.T) {
	withFuel(t, "the document's example 1", running(example()),
		"?A +A .A spent 0", "?A +A .A spent 1", "?A +A .A 7 spent 2", "?A +A .A 7 halted 3", "?A +A .A 7 halted 3")
	withFuel(t, "what is thrown", running(mainOf(num(1), num(0), op(api.Div), pop, ret)),
		"?A +A .A spent 0", "?A +A .A spent 1", "?A +A .A spent 2", "?A +A .A uncaught Arith 3", "?A +A .A uncaught Arith 3")
	withFuel(t, "what cannot be had", running(mainOf(made("X"), pop, ret)),
		"?A +A .A spent 0", "?A +A .A ?X uncaught NoClass 1")
	call := classOf("A", "Object", static("main", methodOf(api.Call, "A", "f", void), ret), static("f", num(2), show, ret))
	withFuel(t, "a Call", running(call),
		"?A +A .A spent 0", "?A +A .A spent 1", "?A +A .A spent 2", "?A +A .A 2 spent 3", "?A +A .A 2 spent 4", "?A +A .A 2 halted 5")
	withFuel(t, "no main class", running(), "?A unusable NoClass 0", "?A unusable NoClass 0")
	withFuel(t, "a main class that is wrong", running(mainOf(pop)), "?A uncaught BadClass 0", "?A uncaught BadClass 0")
	loop := static("main", with(api.Goto, 0))
	loop.Frames = []api.Frame{frameAt(loop, 0)}
	s := running(classOf("A", "Object", loop))
	s.Fuel = api.MaxFuel
	runs(t, "P9: for ever", s, "?A +A .A spent 5000")
}

// TestFuelOfStarts: a start that is needed is no instruction; the one that needs
// it is asked for fuel anew.
func TestFuelOfStarts(t *testing.T) {
	main := mainOf(made("B"), pop, ret)
	withFuel(t, "a start", running(main, classOf("B", "Object", static("start", op(api.Nop), ret))),
		"?A +A .A spent 0", "?A +A .A ?B +B spent 1", "?A +A .A ?B +B .B spent 2", "?A +A .A ?B +B .B spent 3", "?A +A .A ?B +B .B spent 4", "?A +A .A ?B +B .B halted 5")
	withFuel(t, "no start method", running(main, classOf("B", "C"), classOf("C", "Object")),
		"?A +A .A spent 0", "?A +A .A ?B ?C +C .C +B .B spent 1", "?A +A .A ?B ?C +C .C +B .B spent 2", "?A +A .A ?B ?C +C .C +B .B halted 3")
	withFuel(t, "behind the start of the one above", running(main, classOf("B", "C"), classOf("C", "Object", static("start", ret))),
		"?A +A .A spent 0", "?A +A .A ?B ?C +C .C spent 1", "?A +A .A ?B ?C +C .C +B .B spent 2", "?A +A .A ?B ?C +C .C +B .B spent 3", "?A +A .A ?B ?C +C .C +B .B halted 4")
	withFuel(t, "a start that throws", running(main, classOf("B", "Object", fails("Arith"))),
		"?A +A .A spent 0", "?A +A .A ?B +B spent 1", "?A +A .A ?B +B !B spent 2", "?A +A .A ?B +B !B uncaught Arith 3", "?A +A .A ?B +B !B uncaught Arith 3")
	caught := classOf("A", "Object", catching(static("main", made("B"), pop, ret), 0, 1, "", ret))
	withFuel(t, "a start that throws, caught", running(caught, classOf("B", "Object", fails("Arith"))),
		"?A +A .A spent 0", "?A +A .A ?B +B spent 1", "?A +A .A ?B +B !B spent 2", "?A +A .A ?B +B !B spent 3", "?A +A .A ?B +B !B halted 4")
	nested := []api.Class{main, classOf("B", "Object", static("start", made("C"), pop, ret)), classOf("C", "Object", fails("Arith"))}
	withFuel(t, "a start in a start throws", running(nested...),
		"?A +A .A spent 0", "?A +A .A ?B +B ?C +C spent 1", "?A +A .A ?B +B ?C +C !C spent 2", "?A +A .A ?B +B ?C +C !C !B spent 3", "?A +A .A ?B +B ?C +C !C !B uncaught Arith 4")
	deep := running(main, classOf("B", "Object", starts(1)))
	deep.Depth = 1
	withFuel(t, "a start without room", deep, "?A +A .A spent 0", "?A +A .A ?B +B !B uncaught Deep 1")
	withFuel(t, "a wrong class behind the start of the one above", running(main, classOf("B", "C", static("f", pop)), classOf("C", "Object", static("start", ret))),
		"?A +A .A spent 0", "?A +A .A ?B ?C +C .C spent 1", "?A +A .A ?B ?C +C .C uncaught BadClass 2")
}

// TestFuelOfMainsStart: no instruction needs it, so none is asked for fuel between.
func TestFuelOfMainsStart(t *testing.T) {
	main := static("main", ret)
	withFuel(t, "above main", running(classOf("A", "B", main), classOf("B", "Object", static("start", ret))),
		"?A ?B +B spent 0", "?A ?B +B .B +A .A spent 1", "?A ?B +B .B +A .A halted 2")
	withFuel(t, "both", running(classOf("A", "B", main, static("start", ret)), classOf("B", "Object", static("start", ret))),
		"?A ?B +B spent 0", "?A ?B +B .B +A spent 1", "?A ?B +B .B +A .A spent 2", "?A ?B +B .B +A .A halted 3")
	withFuel(t, "it throws", running(classOf("A", "Object", main, fails("Throwable"))),
		"?A +A spent 0", "?A +A spent 1", "?A +A !A uncaught BadInit 2")
	withFuel(t, "a wrong one below", running(classOf("A", "B", main, static("f", pop)), classOf("B", "Object", static("start", ret))),
		"?A ?B +B spent 0", "?A ?B +B .B uncaught BadClass 1")
}

// TestMoreFuel: P12: with more of it a run goes on where it ended with less.
func TestMoreFuel(t *testing.T) {
	for _, s := range someScripts()[:250] {
		moreFuel(t, s)
	}
}

func moreFuel(t *testing.T, s api.Script) {
	t.Helper()
	s.Fuel = api.MaxFuel
	whole, e := atrium.Run(s)
	if e != api.OK {
		t.Fatalf("P12: Run: the error %d of %#v", e, s)
	}
	had := []api.Event{}
	for fuel := range min(whole.Done, 60) {
		s.Fuel = fuel
		r, _ := atrium.Run(s)
		if r.Outcome != api.Spent || r.Done != fuel || len(r.Events) < len(had) || len(r.Events) > len(whole.Events) || !slices.Equal(r.Events, whole.Events[:len(r.Events)]) {
			t.Errorf("P12: with the fuel %d: %s, with more: %s", fuel, story(r), story(whole))
		}
		had = r.Events
	}
	s.Fuel = whole.Done
	if r, _ := atrium.Run(s); story(r) != story(whole) {
		t.Errorf("P12: with just enough fuel: %s, with more: %s", story(r), story(whole))
	}
}
