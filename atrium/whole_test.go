package atrium_test

import (
	"reflect"
	"slices"
	"testing"

	"atrium/api"
	"atrium/atrium"
)

// someScripts: made up, and always the same.
func someScripts() []api.Script {
	var l []api.Script
	for seed := range int64(1500) {
		l = append(l, anyScript(seed))
	}
	return l
}

// TestAnyScript: P12: whatever the repository is, no value is what an operation
// cannot bear: such a thing would be given up on, and be an error.
func TestAnyScript(t *testing.T) {
	seen := map[string]int{}
	for _, s := range someScripts() {
		r, e := atrium.Run(s)
		if e != api.OK {
			t.Fatalf("P12: Run: the error %d of %#v", e, s)
		}
		inOrder(t, s, r)
		twin, _ := atrium.Run(s)
		if !reflect.DeepEqual(r, twin) {
			t.Errorf("P2: Run again = %s, first %s", story(twin), story(r))
		}
		seen[ending(r)[:5]]++
		seen[r.Class]++
		for _, e := range r.Events {
			seen["  ?+.!"[e.Kind:e.Kind+1]]++
		}
	}
	for _, what := range []string{
		"halte", "uncau", "unusa", "spent", " ", "?", "+", ".", "!", "NoClass", "BadForm", "Circular",
		"BadClass", "BadInit", "Arith", "NullRef", "BadCast", "Bounds", "BadSize", "Heap", "Deep", "NoField", "NoMethod",
	} {
		if seen[what] < 5 {
			t.Errorf("too few of %q: %d", what, seen[what])
		}
	}
}

// inOrder: P12: each class is asked for once at most, starts once at most, behind
// the one above it, and ends or fails once at most behind that.
func inOrder(t *testing.T, s api.Script, r api.Result) {
	t.Helper()
	seen := map[api.Event]bool{}
	for _, e := range r.Events {
		super := ""
		if e.Kind == api.Started {
			super = superOf(t, s, e.Class)
		}
		asked, started := seen[api.Event{Kind: api.Asked, Class: e.Class}], seen[api.Event{Kind: api.Started, Class: e.Class}]
		switch {
		case e.Kind == api.Printed:
			continue
		case seen[e]:
			t.Errorf("P12: twice: %v in %s", e, story(r))
		case e.Kind == api.Started && !asked, e.Kind > api.Started && !started:
			t.Errorf("P12: too early: %v in %s", e, story(r))
		case seen[api.Event{Kind: api.Ended, Class: e.Class}], seen[api.Event{Kind: api.Failed, Class: e.Class}]:
			t.Errorf("P12: too late: %v in %s", e, story(r))
		case len(super) == 1 && !seen[api.Event{Kind: api.Started, Class: super}]:
			t.Errorf("P12: ahead of the one above: %v in %s", e, story(r))
		}
		seen[e] = true
	}
	if r.Done < 0 || r.Done > s.Fuel || r.Outcome == api.Spent && r.Done != s.Fuel {
		t.Errorf("P9: %d done, with the fuel %d", r.Done, s.Fuel)
	}
}

// superOf is a name of one letter, but of classes that are there.
func superOf(t *testing.T, s api.Script, name string) string {
	t.Helper()
	at := slices.IndexFunc(s.Entries, func(e api.Entry) bool { return e.Name == name })
	c, e := atrium.Decode(s.Entries[at].Bytes)
	if e != api.OK {
		t.Errorf("P7: %s has started, and is no class", name)
	}
	return c.Super
}

// TestUnasked: P12: other entries of names that were not asked for do not matter.
func TestUnasked(t *testing.T) {
	changes := 0
	for _, s := range someScripts() {
		want, _ := atrium.Run(s)
		asked := map[string]bool{}
		for _, e := range want.Events {
			asked[e.Class] = asked[e.Class] || e.Kind == api.Asked
		}
		less, other, twice := s, s, s
		less.Entries = slices.DeleteFunc(slices.Clone(s.Entries), func(e api.Entry) bool { return !asked[e.Name] })
		other.Entries = slices.Clone(s.Entries)
		twice.Entries = slices.Clone(s.Entries)
		for i, e := range s.Entries {
			if !asked[e.Name] {
				other.Entries[i].Bytes = "no class"
				twice.Entries = append(twice.Entries, e)
				changes++
			}
		}
		twice.Entries = append(twice.Entries, api.Entry{Name: "Object", Bytes: "x"}, api.Entry{}, api.Entry{Name: "Error", Bytes: rawBytes(classOf("Error", "Arith"))})
		slices.Reverse(twice.Entries)
		for _, s := range []api.Script{less, other, twice} {
			if r, e := atrium.Run(s); !reflect.DeepEqual(r, want) || e != api.OK {
				t.Errorf("P12: with other entries: %s, %d, want %s", story(r), e, story(want))
			}
		}
	}
	if changes < 100 {
		t.Errorf("too few entries were not asked for: %d", changes)
	}
}

// TestRunWritesNothing: P2: neither into the script nor behind its lists.
func TestRunWritesNothing(t *testing.T) {
	for _, s := range someScripts()[:300] {
		given, twin := roomy(s), roomy(s)
		atrium.Run(given)
		if !reflect.DeepEqual(withSpare(given), withSpare(twin)) {
			t.Errorf("P2: the script was written into: %#v", s)
		}
	}
}

// TestRunAnswersNewMemory: P2: what is written into an answer changes no other.
func TestRunAnswersNewMemory(t *testing.T) {
	s := running(mainOf(num(1), show, num(2), show, made("X"), pop, ret))
	first, _ := atrium.Run(s)
	second, _ := atrium.Run(s)
	a, b := ranges(reflect.ValueOf(first)), ranges(reflect.ValueOf(second))
	if len(a) != 1 || len(b) != 1 || a[0].from < b[0].to && b[0].from < a[0].to {
		t.Errorf("P2: the events lie in one memory: %v, %v", a, b)
	}
	scribble(reflect.ValueOf(first))
	third, _ := atrium.Run(s)
	if story(second) != "?A +A .A 1 2 ?X uncaught NoClass 5" || story(third) != story(second) {
		t.Errorf("P2: Run behind what was written into an answer: %s, %s", story(second), story(third))
	}
}

// TestNothingIsKept: P2: a run knows nothing of another one's classes.
func TestNothingIsKept(t *testing.T) {
	first := running(mainOf(made("B"), pop, getY("B"), num(1), op(api.Add), op(api.Dup), putY("B"), show, ret), classOf("B", "Object", staticY))
	other := running(mainOf(made("B"), pop, ret), classOf("B", "C"))
	for range 3 {
		runs(t, "P2: a class with a number", first, "?A +A .A ?B +B .B 1 halted 9")
		runs(t, "P2: one that cannot be had", other, "?A +A .A ?B ?C uncaught NoClass 1")
	}
}

func FuzzRun(f *testing.F) {
	for _, s := range someScripts()[:40] {
		f.Add(s.Entries[0].Bytes, s.Entries[1].Bytes, s.Heap, s.Depth)
	}
	f.Fuzz(func(t *testing.T, a, b string, heap, depth int) {
		s := api.Script{Main: "A", Inputs: []int{1}, Fuel: 100, Heap: heap, Depth: depth}
		for _, bytes := range []string{a, b} {
			c, _ := atrium.Decode(bytes)
			s.Entries = append(s.Entries, api.Entry{Name: c.Name, Bytes: bytes})
		}
		r, e := atrium.Run(s)
		if e == api.OK {
			inOrder(t, s, r)
			return
		}
		if bounds := heap >= 0 && heap <= api.MaxHeap && depth > 0 && depth <= api.MaxDepth; bounds || e != api.ErrScript || !reflect.DeepEqual(r, api.Result{}) {
			t.Errorf("P6: Run = %v, %d of %#v", r, e, s)
		}
	})
}
