package machine

import (
	"testing"

	"atrium/api"
	"atrium/base"
	"atrium/shape"
)

// TestEveryOperationIsKnown: each has a function for all that it may come to.
func TestEveryOperationIsKnown(t *testing.T) {
	table := operations()
	if len(table) != api.Size+1 {
		t.Fatalf("P10: %d operations", len(table))
	}
	for number, op := range table {
		names := false
		has := op.plain != nil
		switch shape.OperandOf(number) {
		case shape.OfClass:
			names, has = true, op.class != nil && (op.unless == nil) == (op.plain == nil)
		case shape.OfField:
			names, has = true, op.field != nil
		case shape.OfMethod:
			names, has = true, op.method != nil
		}
		if names != (op.finds != nil) || !has {
			t.Errorf("P10: the operation %d lacks something", number)
		}
	}
}

// TestKeptWithTheInstruction: what was found once, or was wrong, is not looked for again.
func TestKeptWithTheInstruction(t *testing.T) {
	m := &machine{names: map[string]target{}}
	m.haveBase()
	looked := 0
	for _, found := range []target{foundClass{m.there(base.Heap)}, foundField{}, foundMethod{}, wrong{base.NoField}} {
		in := &instruction{target: unsought{}}
		op := operation{finds: func(*machine, api.Ref) target {
			looked++
			return found
		}}
		for range 3 {
			m.lookFor(op, in)
		}
		if in.target != found {
			t.Errorf("P10: kept with the instruction: %v, want %v", in.target, found)
		}
	}
	if looked != 4 {
		t.Errorf("P10: looked for %d times, want 4", looked)
	}
}

func TestHomes(t *testing.T) {
	c := &class{name: "A"}
	for _, to := range []target{foundClass{c}, foundField{class: c}, foundMethod{class: c}} {
		if to.home() != c {
			t.Errorf("P8: %v was found in no class", to)
		}
	}
	for _, to := range []target{unsought{}, wrong{base.NoClass}} {
		if to.home() != nil {
			t.Errorf("P8: %v was found in a class", to)
		}
	}
}

// TestNoOtherValue: an operation that is handed another kind of value gives up.
func TestNoOtherValue(t *testing.T) {
	takes := map[string]func(f *frame){
		"an int":    func(f *frame) { f.takeInt() },
		"two ints":  func(f *frame) { f.takeInts() },
		"a row":     func(f *frame) { f.takeRow() },
		"an object": func(f *frame) { f.takeObject() },
	}
	bears := map[string][]value{
		"an int":    {7},
		"two ints":  {7},
		"a row":     {nil, row{}},
		"an object": {nil, &object{}},
	}
	for what, take := range takes {
		for _, v := range []value{7, nil, row{}, &object{}} {
			fits := false
			for _, b := range bears[what] {
				fits = fits || kindOf(b) == kindOf(v)
			}
			if gaveUp := givesUp(func() { take(&frame{stack: []value{v, v}}) }); gaveUp == fits {
				t.Errorf("P12: %s is taken, %v lies there: given up on: %t", what, v, gaveUp)
			}
		}
	}
}

func kindOf(v value) int {
	switch v.(type) {
	case int:
		return api.Int
	case row:
		return api.Ints
	case *object:
		return api.Object
	}
	return api.Null
}

func givesUp(work func()) (gaveUp bool) {
	defer func() { gaveUp = recover() != nil }()
	work()
	return false
}
