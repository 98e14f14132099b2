package atrium_test

import (
	"math"
	"reflect"
	"runtime"
	"strings"
	"testing"

	"atrium/api"
	"atrium/atrium"
)

// oddClasses: all that the calls may be handed: right, wrong, and far from a class.
func oddClasses() []api.Class {
	l := []api.Class{
		{},
		{Name: strings.Repeat("a", 1<<20)},
		{Name: "A", Super: "B", Fields: make([]api.Field, 1<<20)},
		{Name: "A", Super: "B", Methods: make([]api.Method, 1<<16)},
		{Name: "A", Super: "B", Methods: []api.Method{{Name: "m", Static: true, Code: make([]api.Instr, 1<<20)}}},
	}
	for _, all := range [][]change{right(), wrongButWritable(), wrongAndUnwritable()} {
		for _, ch := range all {
			l = append(l, changed(ch))
		}
	}
	return l
}

func oddBytes() []string {
	l := []string{"", "C", "CLAS", "\xff", strings.Repeat("\x00", 1<<20), "CLAS" + strings.Repeat("\xff", 1<<20), "CLAS\x01A\x01B" + strings.Repeat("\xff", 1<<20), exampleBytes}
	for _, ch := range wrongButWritable() {
		l = append(l, rawBytes(changed(ch)))
	}
	return l
}

func oddScripts() []api.Script {
	l := []api.Script{
		{},
		{Main: "A", Fuel: 10, Heap: 10, Depth: 1},
		{Main: "\xff", Fuel: math.MaxInt, Heap: math.MaxInt, Depth: math.MaxInt},
		{Main: "A", Fuel: math.MinInt, Heap: math.MinInt, Depth: math.MinInt},
		{Main: "A", Fuel: 10, Heap: 10, Depth: 1, Entries: make([]api.Entry, 1<<16)},
		{Main: "A", Fuel: 10, Heap: 10, Depth: 1, Inputs: make([]int, 1<<16)},
	}
	for _, s := range oddBytes() {
		l = append(l, api.Script{Main: "A", Fuel: 10, Heap: 10, Depth: 1, Entries: []api.Entry{{Name: "A", Bytes: s}}})
	}
	return l
}

// TestNoPanic: P1: a panic would end the test; with an error all else is empty.
func TestNoPanic(t *testing.T) {
	before := runtime.NumGoroutine()
	for _, c := range oddClasses() {
		if s, e := atrium.Encode(c); e != api.OK && s != "" {
			t.Errorf("P1: Encode with the error %d: %q", e, s)
		}
		checkedAs(t, c)
	}
	for _, s := range oddBytes() {
		if c, e := atrium.Decode(s); e != api.OK && !reflect.DeepEqual(c, api.Class{}) {
			t.Errorf("P1: Decode with the error %d: %v", e, c)
		}
	}
	for _, s := range oddScripts() {
		if r, e := atrium.Run(s); e != api.OK && !reflect.DeepEqual(r, api.Result{}) {
			t.Errorf("P1: Run with the error %d: %v", e, r)
		}
	}
	if after := runtime.NumGoroutine(); after > before {
		t.Errorf("P1: %d goroutines, %d ahead of the calls", after, before)
	}
}

// TestHandedIn: P2: neither what is handed in is written into, nor the spare room behind its lists.
func TestHandedIn(t *testing.T) {
	all := append(right()[:10], wrongButWritable()[:30]...)
	for _, ch := range all {
		c, twin := roomy(changed(ch)), roomy(changed(ch))
		atrium.Encode(c)
		atrium.Check(c)
		if !reflect.DeepEqual(withSpare(c), withSpare(twin)) {
			t.Errorf("P2: %s: the class was written into", ch.why)
		}
	}
	s := roomyScript()
	atrium.Run(s)
	if !reflect.DeepEqual(withSpare(s), withSpare(roomyScript())) {
		t.Error("P2: the script was written into")
	}
}

func roomyScript() api.Script {
	return roomy(api.Script{Entries: []api.Entry{{Name: "A", Bytes: exampleBytes}}, Main: "A", Inputs: []int{1, 2}, Fuel: 9, Heap: 9, Depth: 9})
}

// TestNewMemory: P2: no two lists of what Decode answers share memory, spare room
// too, neither in one answer nor in two, and writing into one changes no other.
func TestNewMemory(t *testing.T) {
	s := rawBytes(full())
	first, _ := atrium.Decode(s)
	second, _ := atrium.Decode(s)
	lists := append(ranges(reflect.ValueOf(first)), ranges(reflect.ValueOf(second))...)
	if len(lists) < 20 {
		t.Fatalf("too few lists: %d", len(lists))
	}
	for i, a := range lists {
		for _, b := range lists[:i] {
			if a.from < b.to && b.from < a.to {
				t.Errorf("P2: two lists share memory: %v, %v", a, b)
			}
		}
	}
	scribble(reflect.ValueOf(first))
	third, e := atrium.Decode(s)
	if !same(second, full()) || !same(third, full()) || e != api.OK {
		t.Error("P2: Decode behind what was written into an answer")
	}
}

// TestNotKept: P2: what was answered stays as it is when what was handed in is changed.
func TestNotKept(t *testing.T) {
	c := full()
	first, _ := atrium.Encode(c)
	scribble(reflect.ValueOf(c))
	if second, e := atrium.Encode(full()); first != rawBytes(full()) || second != first || e != api.OK {
		t.Error("P2: Encode behind what was written into its argument")
	}
	if _, e := atrium.Encode(c); e != api.ErrForm {
		t.Error("P2: Encode of what was written into answers as before")
	}
}

// TestArgumentsAlone: P2: the same arguments, whatever was called between.
func TestArgumentsAlone(t *testing.T) {
	want := make([]string, 0)
	for _, ch := range right() {
		s, _ := atrium.Encode(changed(ch))
		want = append(want, s)
		atrium.Decode(s[:len(s)-1])
	}
	for i, ch := range right() {
		s, e := atrium.Encode(changed(ch))
		if s != want[i] || e != api.OK {
			t.Errorf("P2: %s: Encode the second time: %q, %d, want %q", ch.why, s, e, want[i])
		}
		if c, e := atrium.Decode(want[i]); !same(c, changed(ch)) || e != api.OK {
			t.Errorf("P2: %s: Decode the second time: %v, %d", ch.why, c, e)
		}
	}
}

// roomy copies a thing so that each of its lists has spare room, filled with its first element.
func roomy[T any](x T) T {
	return spread(reflect.ValueOf(x)).Interface().(T)
}

func spread(v reflect.Value) reflect.Value {
	out := reflect.New(v.Type()).Elem()
	switch v.Kind() {
	case reflect.Struct:
		for i := range v.NumField() {
			out.Field(i).Set(spread(v.Field(i)))
		}
	case reflect.Slice:
		if v.Len() == 0 {
			return v
		}
		out.Set(reflect.MakeSlice(v.Type(), v.Len()+3, v.Len()+3))
		for i := range v.Len() + 3 {
			out.Index(i).Set(spread(v.Index(i % v.Len())))
		}
		return out.Slice(0, v.Len())
	default:
		out.Set(v)
	}
	return out
}

// withSpare lists all that stands in a thing, the spare room of its lists too.
func withSpare(x any) []any {
	var all []any
	var walk func(v reflect.Value)
	walk = func(v reflect.Value) {
		switch v.Kind() {
		case reflect.Struct:
			for i := range v.NumField() {
				walk(v.Field(i))
			}
		case reflect.Slice:
			all = append(all, v.Len(), v.Cap())
			for i := range v.Cap() {
				walk(v.Slice(0, v.Cap()).Index(i))
			}
		default:
			all = append(all, v.Interface())
		}
	}
	walk(reflect.ValueOf(x))
	return all
}

// memory is where a list lies, with its spare room.
type memory struct {
	from, to uintptr
}

func ranges(v reflect.Value) []memory {
	var l []memory
	switch v.Kind() {
	case reflect.Struct:
		for i := range v.NumField() {
			l = append(l, ranges(v.Field(i))...)
		}
	case reflect.Slice:
		if v.Cap() > 0 {
			l = append(l, memory{v.Pointer(), v.Pointer() + uintptr(v.Cap())*v.Type().Elem().Size()})
		}
		for i := range v.Len() {
			l = append(l, ranges(v.Index(i))...)
		}
	}
	return l
}

// scribble writes nonsense over all lists of a thing, and over their spare room.
func scribble(v reflect.Value) {
	switch v.Kind() {
	case reflect.Struct:
		for i := range v.NumField() {
			scribble(v.Field(i))
		}
	case reflect.Slice:
		whole := v.Slice(0, v.Cap())
		for i := range whole.Len() {
			scribble(whole.Index(i))
			nonsense(whole.Index(i))
		}
	}
}

func nonsense(v reflect.Value) {
	switch v.Kind() {
	case reflect.Struct:
		for i := range v.NumField() {
			nonsense(v.Field(i))
		}
	case reflect.Int:
		v.SetInt(99)
	case reflect.String:
		v.SetString("nonsense!")
	case reflect.Bool:
		v.SetBool(!v.Bool())
	}
}
