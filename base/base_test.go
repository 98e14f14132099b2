package base_test

import (
	"testing"

	"atrium/base"
)

func errors() []string {
	return []string{"NoClass", "BadForm", "Circular", "BadClass", "NoField", "NoMethod", "BadInit", "Arith", "NullRef", "BadCast", "Bounds", "BadSize", "Heap", "Deep"}
}

func TestSuper(t *testing.T) {
	want := map[string]string{"Object": "", "Throwable": "Object", "Error": "Throwable"}
	for _, name := range errors() {
		want[name] = "Error"
	}
	for name, super := range want {
		if got, there := base.Super(name); got != super || !there || !base.IsThere(name) {
			t.Errorf("P5: above %s: %q, %v, want %q", name, got, there, super)
		}
	}
	for _, name := range []string{"", "A", "object", "Objects", "Throw", "Deep2", "arith"} {
		if got, there := base.Super(name); got != "" || there || base.IsThere(name) {
			t.Errorf("P5: above %q: %q, %v", name, got, there)
		}
	}
}

// TestNames: all of them, each once, behind the one above it.
func TestNames(t *testing.T) {
	seen := map[string]bool{"": true}
	for _, name := range base.Names() {
		if super, there := base.Super(name); !there || seen[name] || !seen[super] {
			t.Errorf("P7: %s is there: %t, twice: %t, %q ahead of it: %t", name, there, seen[name], super, seen[super])
		}
		seen[name] = true
	}
	if want := len(errors()) + 3; len(base.Names()) != want {
		t.Errorf("P7: %d names, want %d", len(base.Names()), want)
	}
	base.Names()[0] = "changed"
	if base.Names()[0] != "Object" {
		t.Error("P2: what was written into an answer is there in the next one")
	}
}

func TestIsBelow(t *testing.T) {
	above := map[string][]string{"Object": nil, "Throwable": {"Object"}, "Error": {"Throwable", "Object"}}
	for _, name := range errors() {
		above[name] = []string{"Error", "Throwable", "Object"}
	}
	for class, those := range above {
		want := map[string]bool{class: true}
		for _, other := range those {
			want[other] = true
		}
		for other := range above {
			if base.IsBelow(class, other) != want[other] {
				t.Errorf("P5: %s below %s: %v", class, other, !want[other])
			}
		}
		for _, other := range []string{"", "A"} {
			if base.IsBelow(class, other) || base.IsBelow(other, class) || base.IsBelow(other, other) {
				t.Errorf("P5: %s and %q", class, other)
			}
		}
	}
}
