package atrium_test

import (
	"math"
	"reflect"
	"strconv"
	"strings"
	"testing"

	"atrium/api"
	"atrium/atrium"
)

// change makes another class of a full one.
type change struct {
	why  string
	make func(c *api.Class)
}

// wrongNames, wrongTypes: what may stand nowhere.
var (
	wrongNames = []string{"", "1a", "_", "a_b", "a b", "a\x00", "-", "A.", "é", "aé", "a\x80", "@", "[", "`", "{", "a/", "a:", "abcdefghijklm", strings.Repeat("a", 200)}
	wrongTypes = []api.Type{{Kind: 6}, {Kind: 255}, {Kind: api.Object}, {Kind: api.Object, Class: "1"}, {Kind: api.Object, Class: "abcdefghijklm"}}
	// unwritableTypes have no bytes.
	unwritableTypes = []api.Type{{Kind: -1}, {Kind: 1 << 32}, {Kind: 256 + api.Int}, {Kind: api.Int, Class: "A"}, {Kind: api.Ints, Class: "A"}}
)

type place[T any] struct {
	where string
	at    func(c *api.Class) *T
}

func namePlaces() []place[string] {
	return []place[string]{
		{"the class", func(c *api.Class) *string { return &c.Name }},
		{"the Super", func(c *api.Class) *string { return &c.Super }},
		{"a field", func(c *api.Class) *string { return &c.Fields[1].Name }},
		{"the class of a field's type", func(c *api.Class) *string { return &c.Fields[2].Type.Class }},
		{"a method", func(c *api.Class) *string { return &c.Methods[plain].Name }},
		{"the class of a parameter", func(c *api.Class) *string { return &c.Methods[every].Params[1].Class }},
		{"New", func(c *api.Class) *string { return &c.Methods[every].Code[api.New].Ref.Class }},
		{"Cast", func(c *api.Class) *string { return &c.Methods[every].Code[api.Cast].Ref.Class }},
		{"Is", func(c *api.Class) *string { return &c.Methods[every].Code[api.Is].Ref.Class }},
		{"GetField's class", func(c *api.Class) *string { return &c.Methods[every].Code[api.GetField].Ref.Class }},
		{"GetField's name", func(c *api.Class) *string { return &c.Methods[every].Code[api.GetField].Ref.Name }},
		{"PutStatic's class", func(c *api.Class) *string { return &c.Methods[every].Code[api.PutStatic].Ref.Class }},
		{"PutStatic's name", func(c *api.Class) *string { return &c.Methods[every].Code[api.PutStatic].Ref.Name }},
		{"Invoke's class", func(c *api.Class) *string { return &c.Methods[every].Code[api.Invoke].Ref.Class }},
		{"Invoke's name", func(c *api.Class) *string { return &c.Methods[every].Code[api.Invoke].Ref.Name }},
		{"Call's class", func(c *api.Class) *string { return &c.Methods[every].Code[api.Call].Ref.Class }},
		{"Call's name", func(c *api.Class) *string { return &c.Methods[every].Code[api.Call].Ref.Name }},
		{"a handler", func(c *api.Class) *string { return &c.Methods[every].Handlers[0].Class }},
	}
}

func valuePlaces() []place[api.Type] {
	return []place[api.Type]{
		{"a field", func(c *api.Class) *api.Type { return &c.Fields[1].Type }},
		{"a parameter", func(c *api.Class) *api.Type { return &c.Methods[every].Params[1] }},
		{"GetField", func(c *api.Class) *api.Type { return &c.Methods[every].Code[api.GetField].Ref.Type }},
		{"PutField", func(c *api.Class) *api.Type { return &c.Methods[every].Code[api.PutField].Ref.Type }},
		{"GetStatic", func(c *api.Class) *api.Type { return &c.Methods[every].Code[api.GetStatic].Ref.Type }},
		{"PutStatic", func(c *api.Class) *api.Type { return &c.Methods[every].Code[api.PutStatic].Ref.Type }},
		{"a parameter of Invoke", func(c *api.Class) *api.Type { return &c.Methods[every].Code[api.Invoke].Ref.Params[2] }},
		{"a parameter of Call", func(c *api.Class) *api.Type { return &c.Methods[every].Code[api.Call].Ref.Params[5] }},
	}
}

func resultPlaces() []place[api.Type] {
	return []place[api.Type]{
		{"what a method gives", func(c *api.Class) *api.Type { return &c.Methods[every].Result }},
		{"what Invoke gives", func(c *api.Class) *api.Type { return &c.Methods[every].Code[api.Invoke].Ref.Type }},
		{"what Call gives", func(c *api.Class) *api.Type { return &c.Methods[every].Code[api.Call].Ref.Type }},
	}
}

func framePlaces() []place[api.Type] {
	return []place[api.Type]{
		{"a frame's local", func(c *api.Class) *api.Type { return &c.Methods[every].Frames[1].Locals[2] }},
		{"a frame's stack", func(c *api.Class) *api.Type { return &c.Methods[every].Frames[0].Stack[1] }},
	}
}

// put lays each of some things at each of some places.
func put[T any](places []place[T], things []T, why func(T) string) []change {
	var l []change
	for _, p := range places {
		for _, thing := range things {
			l = append(l, change{p.where + ": " + why(thing), func(c *api.Class) { *p.at(c) = thing }})
		}
	}
	return l
}

func nameText(s string) string { return "the name " + strconv.Quote(s) }

func typeText(t api.Type) string {
	return "the type of kind " + strconv.Itoa(t.Kind) + " and class " + strconv.Quote(t.Class)
}

// putTypes lays each of some types at all places where a type stands.
func putTypes(things []api.Type) []change {
	l := put(valuePlaces(), things, typeText)
	l = append(l, put(resultPlaces(), things, typeText)...)
	return append(l, put(framePlaces(), things, typeText)...)
}

// wrongButWritable: no classes, but they can be laid as bytes: Encode and Decode both refuse them.
func wrongButWritable() []change {
	l := []change{
		{"21 fields", func(c *api.Class) { c.Fields = fields(21) }},
		{"two fields of one name", func(c *api.Class) { c.Fields[2].Name = "x" }},
		{"two fields of one name, one static", func(c *api.Class) { c.Fields[1].Name = "x" }},
		{"21 methods", func(c *api.Class) { c.Methods = methods(21) }},
		{"two methods of one signature", func(c *api.Class) { c.Methods = append(c.Methods, c.Methods[plain]) }},
		{"two methods of one signature, one static", func(c *api.Class) {
			m := c.Methods[plain]
			m.Static, m.Locals = false, 2
			c.Methods = append(c.Methods, m)
		}},
		{"7 parameters", func(c *api.Class) { c.Methods[widest].Params = types(7) }},
		{"fewer locals than parameters", func(c *api.Class) { c.Methods[plain].Locals = 0 }},
		{"no local for the object itself", func(c *api.Class) { c.Methods[plain].Static = false }},
		{"21 locals", func(c *api.Class) { c.Methods[plain].Locals = 21 }},
		{"255 locals", func(c *api.Class) { c.Methods[plain].Locals = 255 }},
		{"a stack of 21", func(c *api.Class) { c.Methods[plain].Stack = 21 }},
		{"no code", func(c *api.Class) { c.Methods[plain].Code = nil }},
		{"201 instructions", func(c *api.Class) { c.Methods[plain].Code = make([]api.Instr, 201) }},
		{"the operation 33", func(c *api.Class) { c.Methods[plain].Code[0].Op = 33 }},
		{"the operation 255", func(c *api.Class) { c.Methods[plain].Code[0].Op = 255 }},
		{"a Load beyond the locals", func(c *api.Class) { c.Methods[every].Code[api.Load].N = 3 }},
		{"a Store beyond the locals", func(c *api.Class) { c.Methods[every].Code[api.Store].N = 3 }},
		{"a Load without locals", func(c *api.Class) { c.Methods = loadWithoutLocals() }},
		{"7 parameters of Invoke", func(c *api.Class) { c.Methods[every].Code[api.Invoke].Ref.Params = types(7) }},
		{"7 parameters of Call", func(c *api.Class) { c.Methods[every].Code[api.Call].Ref.Params = types(7) }},
		{"11 handlers", func(c *api.Class) { c.Methods[widest].Handlers = handlers(11) }},
		{"a handler of nothing", func(c *api.Class) { c.Methods[every].Handlers[0].From = 33 }},
		{"a handler From behind To", func(c *api.Class) { c.Methods[every].Handlers[1].To = 31 }},
		{"a handler To beyond the code", func(c *api.Class) { c.Methods[every].Handlers[1].To = 34 }},
		{"a handler At behind the code", func(c *api.Class) { c.Methods[every].Handlers[1].At = 33 }},
		{"61 frames", func(c *api.Class) { c.Methods[widest].Frames = frames(61) }},
		{"two frames at one place", func(c *api.Class) { c.Methods[every].Frames[1].At = 0 }},
		{"frames that fall", func(c *api.Class) { c.Methods[every].Frames[0].At, c.Methods[every].Frames[1].At = 9, 8 }},
		{"a frame behind the code", func(c *api.Class) { c.Methods[every].Frames[1].At = 33 }},
		{"a frame with a local too few", func(c *api.Class) { c.Methods[every].Frames[0].Locals = types(2) }},
		{"a frame with a local too many", func(c *api.Class) { c.Methods[every].Frames[0].Locals = types(4) }},
		{"a frame with too deep a stack", func(c *api.Class) { c.Methods[every].Frames[0].Stack = types(5) }},
	}
	for _, op := range []int{api.Goto, api.IfZero, api.IfLess, api.IfNull} {
		l = append(l, change{"a place behind the code", func(c *api.Class) { c.Methods[every].Code[op].N = 33 }})
	}
	for _, c := range put(namePlaces(), wrongNames, nameText) {
		if c.why != "a handler: "+nameText("") {
			l = append(l, c)
		}
	}
	l = append(l, putTypes(wrongTypes)...)
	l = append(l, put(valuePlaces(), []api.Type{void, top, null}, typeText)...)
	l = append(l, put(resultPlaces(), []api.Type{top, null}, typeText)...)
	return append(l, put(framePlaces(), []api.Type{void}, typeText)...)
}

func loadWithoutLocals() []api.Method {
	m := methods(1)
	m[0].Code = []api.Instr{{Op: api.Load}, {Op: api.Return}}
	return m
}

// wrongAndUnwritable: no classes, and no bytes can say them.
func wrongAndUnwritable() []change {
	l := []change{
		{"-1 locals", func(c *api.Class) { c.Methods = methods(1); c.Methods[0].Locals = -1 }},
		{"256 locals more", func(c *api.Class) { c.Methods[plain].Locals = 257 }},
		{"a stack of -1", func(c *api.Class) { c.Methods[plain].Stack = -1 }},
		{"a stack of 256", func(c *api.Class) { c.Methods[plain].Stack = 256 }},
		{"the operation -1", func(c *api.Class) { c.Methods[plain].Code[0].Op = -1 }},
		{"the operation 256", func(c *api.Class) { c.Methods[plain].Code[0].Op = 256 }},
		{"the least operation", func(c *api.Class) { c.Methods[plain].Code[0].Op = math.MinInt }},
		{"65537 instructions", func(c *api.Class) { c.Methods[plain].Code = make([]api.Instr, 65537) }},
		{"256 fields", func(c *api.Class) { c.Fields = make([]api.Field, 256) }},
		{"256 methods", func(c *api.Class) { c.Methods = make([]api.Method, 256) }},
		{"256 parameters of Call", func(c *api.Class) { c.Methods[every].Code[api.Call].Ref.Params = types(256) }},
		{"256 handlers", func(c *api.Class) { c.Methods[plain].Handlers = make([]api.Handler, 256) }},
		{"256 frames", func(c *api.Class) { c.Methods[plain].Frames = make([]api.Frame, 256) }},
		{"a handler From -1", func(c *api.Class) { c.Methods[every].Handlers[0].From = -1 }},
		{"a handler To far beyond", func(c *api.Class) { c.Methods[every].Handlers[0].To = math.MaxInt }},
		{"a handler At -1", func(c *api.Class) { c.Methods[every].Handlers[0].At = -1 }},
		{"a frame at -1", func(c *api.Class) { c.Methods[every].Frames[0].At = -1 }},
		{"a frame at 65536 more", func(c *api.Class) { c.Methods[every].Frames[1].At += 65536 }},
	}
	for _, op := range []int{api.Load, api.Store, api.Goto, api.IfZero, api.IfLess, api.IfNull} {
		for _, n := range []int{-1, math.MinInt, math.MaxInt, 65536} {
			l = append(l, change{"a number that is none of a local or place", func(c *api.Class) { c.Methods[every].Code[op].N = n }})
		}
	}
	for op := range 33 {
		l = append(l, tooMuch(op)...)
	}
	return append(l, putTypes(unwritableTypes)...)
}

// tooMuch gives an instruction each of the things that its operation lacks.
func tooMuch(op int) []change {
	hasNumber := op >= api.Push && op <= api.Store || op >= api.Goto && op <= api.IfNull
	hasMethod := op == api.Invoke || op == api.Call
	hasName := op >= api.GetField && op <= api.Call
	hasClass := hasName || op == api.New || op == api.Cast || op == api.Is
	at := func(c *api.Class) *api.Instr { return &c.Methods[every].Code[op] }
	var l []change
	add := func(lacks bool, what string, f func(in *api.Instr)) {
		if lacks {
			l = append(l, change{"the operation " + strconv.Itoa(op) + " with " + what, func(c *api.Class) { f(at(c)) }})
		}
	}
	add(!hasNumber, "a number", func(in *api.Instr) { in.N = 1 })
	add(!hasNumber, "a number below 0", func(in *api.Instr) { in.N = -1 })
	add(!hasClass, "a class", func(in *api.Instr) { in.Ref.Class = "B" })
	add(!hasName, "a name", func(in *api.Instr) { in.Ref.Name = "f" })
	add(!hasName, "a type", func(in *api.Instr) { in.Ref.Type = anInt })
	add(!hasName, "a type's class", func(in *api.Instr) { in.Ref.Type.Class = "B" })
	add(!hasMethod, "parameters", func(in *api.Instr) { in.Ref.Params = types(1) })
	return l
}

// right: classes at the edges of what may be.
func right() []change {
	l := []change{
		{"as it is", func(c *api.Class) {}},
		{"nothing in it", func(c *api.Class) { c.Fields, c.Methods = nil, nil }},
		{"empty lists", func(c *api.Class) { c.Fields, c.Methods = []api.Field{}, []api.Method{} }},
		{"its own Super", func(c *api.Class) { c.Super = c.Name }},
		{"the name of one that is there", func(c *api.Class) { c.Name, c.Super = "Object", "Error" }},
		{"20 fields", func(c *api.Class) { c.Fields = fields(20) }},
		{"20 methods", func(c *api.Class) { c.Methods = methods(20) }},
		{"a method named like a field", func(c *api.Class) { c.Methods[plain].Name = "x" }},
		{"one name, other parameters", func(c *api.Class) { c.Methods = append(c.Methods, c.Methods[plain]); c.Methods[3].Params = nil }},
		{"one name, another order of parameters", func(c *api.Class) {
			c.Methods = append(c.Methods, c.Methods[every])
			c.Methods[3].Params = []api.Type{anA, anInt}
		}},
		{"one name, a parameter of another class", func(c *api.Class) {
			c.Methods = append(c.Methods, c.Methods[every])
			c.Methods[3].Params = []api.Type{anInt, {Kind: api.Object, Class: "B"}}
		}},
		{"one name, another thing given", func(c *api.Class) { c.Methods = append(c.Methods, c.Methods[plain]); c.Methods[3].Result = anInt }},
		{"no parameters, locals or stack", func(c *api.Class) { c.Methods = methods(1) }},
		{"just the local for the object itself", func(c *api.Class) { c.Methods = methods(1); c.Methods[0].Static, c.Methods[0].Locals = false, 1 }},
		{"a handler of any class", func(c *api.Class) { c.Methods[every].Handlers[0].Class = "" }},
		{"a frame with nothing on its stack", func(c *api.Class) { c.Methods[every].Frames[0].Stack = nil }},
		{"a frame with a full stack", func(c *api.Class) { c.Methods[every].Frames[0].Stack = types(4) }},
		{"empty parameters where there are none", func(c *api.Class) { c.Methods[every].Code[api.Nop].Ref.Params = []api.Type{} }},
	}
	for _, n := range []int{0, 1, -1, 255, 256, -256, math.MaxInt, math.MinInt, 0x0102030405060708} {
		l = append(l, change{"Push of a number", func(c *api.Class) { c.Methods[every].Code[api.Push].N = n }})
	}
	l = append(l, put(namePlaces(), []string{"a", "q", "R", "b9", "Q0", "azAZ09", "abcdefghijkl"}, nameText)...)
	l = append(l, putTypes([]api.Type{anInt, aRow, anA})...)
	l = append(l, put(resultPlaces(), []api.Type{void}, typeText)...)
	return append(l, put(framePlaces(), []api.Type{top, null}, typeText)...)
}

func changed(ch change) api.Class {
	c := full()
	ch.make(&c)
	return c
}

func TestEncodeExample(t *testing.T) {
	if s, e := atrium.Encode(example()); s != exampleBytes || e != api.OK {
		t.Errorf("P3: Encode = %q, %d, want %q", s, e, exampleBytes)
	}
}

func TestDecodeExample(t *testing.T) {
	if c, e := atrium.Decode(exampleBytes); !same(c, example()) || e != api.OK {
		t.Errorf("P4: Decode = %v, %d", c, e)
	}
}

func TestRight(t *testing.T) {
	for _, ch := range right() {
		c := changed(ch)
		s, e := atrium.Encode(c)
		if want := rawBytes(c); s != want || e != api.OK {
			t.Errorf("P3: %s: Encode = %q, %d, want %q", ch.why, s, e, want)
		}
		if d, e := atrium.Decode(rawBytes(c)); !same(d, c) || e != api.OK {
			t.Errorf("P4: %s: Decode = %v, %d, want %v", ch.why, d, e, c)
		}
	}
}

func TestWrong(t *testing.T) {
	for _, ch := range append(wrongButWritable(), wrongAndUnwritable()...) {
		if s, e := atrium.Encode(changed(ch)); s != "" || e != api.ErrForm {
			t.Errorf("P3: %s: Encode = %q, %d", ch.why, s, e)
		}
	}
	for _, ch := range wrongButWritable() {
		refused(t, ch.why, rawBytes(changed(ch)))
	}
}

// refused asks that s is no class's bytes.
func refused(t *testing.T, why, s string) {
	t.Helper()
	if c, e := atrium.Decode(s); !reflect.DeepEqual(c, api.Class{}) || e != api.ErrForm {
		t.Errorf("P4: %s: Decode = %v, %d", why, c, e)
	}
}

// same leaves aside whether an empty list is nil.
func same(a, b api.Class) bool {
	return reflect.DeepEqual(settled(reflect.ValueOf(a)).Interface(), settled(reflect.ValueOf(b)).Interface())
}

// settled is a copy in which empty lists are nil.
func settled(v reflect.Value) reflect.Value {
	out := reflect.New(v.Type()).Elem()
	switch v.Kind() {
	case reflect.Struct:
		for i := range v.NumField() {
			out.Field(i).Set(settled(v.Field(i)))
		}
	case reflect.Slice:
		for i := range v.Len() {
			out.Set(reflect.Append(out, settled(v.Index(i))))
		}
	default:
		out.Set(v)
	}
	return out
}
