package atrium_test

import (
	"encoding/binary"

	"atrium/api"
)

var (
	void  = api.Type{Kind: api.Void}
	anInt = api.Type{Kind: api.Int}
	aRow  = api.Type{Kind: api.Ints}
	anA   = api.Type{Kind: api.Object, Class: "A"}
	top   = api.Type{Kind: api.Top}
	null  = api.Type{Kind: api.Null}
)

// exampleBytes are those of the document's example 1.
const exampleBytes = "CLAS\x01A\x06Object\x00\x01\x04main\x01\x00\x00\x00\x01\x03\x00" +
	"\x01\x07\x00\x00\x00\x00\x00\x00\x00\x1b\x16\x00\x00"

func example() api.Class {
	return api.Class{Name: "A", Super: "Object", Methods: []api.Method{{
		Name: "main", Static: true, Stack: 1,
		Code: []api.Instr{{Op: api.Push, N: 7}, {Op: api.Print}, {Op: api.Return}},
	}}}
}

// The methods of full, by their numbers.
const (
	every  = 0 // not static, each operation once, at the place of its number
	plain  = 1 // static, one Nop
	widest = 2 // as much of everything as there may be
)

// full has something of everything, and is made anew each time.
func full() api.Class {
	return api.Class{
		Name: "Abcdefghij12", Super: "Z",
		Fields: []api.Field{
			{Name: "x", Type: anInt}, {Name: "y", Static: true, Type: aRow}, {Name: "z", Type: anA},
		},
		Methods: []api.Method{
			{
				Name: "every", Params: []api.Type{anInt, anA}, Result: aRow, Locals: 3, Stack: 4, Code: everyOperation(),
				Handlers: []api.Handler{{From: 0, To: 33, At: 32, Class: "Error"}, {From: 32, To: 33, At: 0}},
				Frames: []api.Frame{
					{At: 0, Locals: []api.Type{anInt, anA, top}, Stack: []api.Type{null, aRow}},
					{At: 32, Locals: []api.Type{aRow, null, anInt}},
				},
			},
			{Name: "plain", Static: true, Params: []api.Type{anInt}, Locals: 1, Code: []api.Instr{{}}},
			widestMethod(),
		},
	}
}

func everyOperation() []api.Instr {
	code := make([]api.Instr, 33)
	for op := range code {
		code[op].Op = op
	}
	code[api.Push].N = -2
	code[api.Load].N, code[api.Store].N = 0, 2
	code[api.Goto].N, code[api.IfZero].N, code[api.IfLess].N, code[api.IfNull].N = 0, 32, 1, 2
	for _, op := range []int{api.New, api.Cast, api.Is} {
		code[op].Ref = api.Ref{Class: "B"}
	}
	for _, op := range []int{api.GetField, api.PutField, api.GetStatic, api.PutStatic} {
		code[op].Ref = api.Ref{Class: "B", Name: "f", Type: anA}
	}
	code[api.Invoke].Ref = api.Ref{Class: "B", Name: "m", Params: []api.Type{anInt, aRow, anA}, Type: aRow}
	code[api.Call].Ref = api.Ref{Class: "B", Name: "m", Params: types(api.MaxParams)}
	return code
}

func widestMethod() api.Method {
	m := api.Method{
		Name: "widest", Params: types(api.MaxParams), Result: anA,
		Locals: api.MaxLocals, Stack: api.MaxStack, Code: make([]api.Instr, api.MaxCode),
	}
	m.Code[0] = api.Instr{Op: api.Goto, N: api.MaxCode - 1}
	m.Code[1] = api.Instr{Op: api.Load, N: api.MaxLocals - 1}
	m.Handlers = handlers(api.MaxHandlers)
	m.Handlers[0] = api.Handler{From: api.MaxCode - 1, To: api.MaxCode, At: api.MaxCode - 1}
	m.Frames = frames(api.MaxFrames)
	m.Frames[api.MaxFrames-1].At = api.MaxCode - 1
	return m
}

// types, handlers, frames, fields, methods: so many, all as they may be.
func types(n int) []api.Type {
	l := make([]api.Type, n)
	for i := range l {
		l[i] = anInt
	}
	return l
}

func handlers(n int) []api.Handler {
	l := make([]api.Handler, n)
	for i := range l {
		l[i] = api.Handler{From: i, To: i + 1, At: i, Class: "Error"}
	}
	return l
}

func frames(n int) []api.Frame {
	l := make([]api.Frame, n)
	for i := range l {
		l[i] = api.Frame{At: i, Locals: types(api.MaxLocals), Stack: types(api.MaxStack)}
	}
	return l
}

func fields(n int) []api.Field {
	l := make([]api.Field, n)
	for i := range l {
		l[i] = api.Field{Name: letter(i), Type: anInt}
	}
	return l
}

func methods(n int) []api.Method {
	l := make([]api.Method, n)
	for i := range l {
		l[i] = api.Method{Name: letter(i), Static: true, Code: []api.Instr{{Op: api.Return}}}
	}
	return l
}

func letter(i int) string { return string(rune('a' + i)) }

// rawBytes lays the bytes as the document says, of what is no class too: it
// asks for nothing, so that Decode is given bytes that Encode would not write.
func rawBytes(c api.Class) string {
	b := rawName(rawName([]byte("CLAS"), c.Name), c.Super)
	b = append(b, byte(len(c.Fields)))
	for _, f := range c.Fields {
		b = rawType(append(rawName(b, f.Name), rawFlag(f.Static)), f.Type)
	}
	b = append(b, byte(len(c.Methods)))
	for _, m := range c.Methods {
		b = rawMethod(b, m)
	}
	return string(b)
}

func rawMethod(b []byte, m api.Method) []byte {
	b = append(rawName(b, m.Name), rawFlag(m.Static))
	b = rawType(rawTypes(b, m.Params), m.Result)
	b = append(b, byte(m.Locals), byte(m.Stack))
	b = raw16(b, len(m.Code))
	for _, in := range m.Code {
		b = rawInstr(b, in)
	}
	b = append(b, byte(len(m.Handlers)))
	for _, h := range m.Handlers {
		b = rawName(raw16(raw16(raw16(b, h.From), h.To), h.At), h.Class)
	}
	b = append(b, byte(len(m.Frames)))
	for _, f := range m.Frames {
		b = rawTypes(rawTypes(raw16(b, f.At), f.Locals), f.Stack)
	}
	return b
}

func rawInstr(b []byte, in api.Instr) []byte {
	b = append(b, byte(in.Op))
	switch r := in.Ref; {
	case in.Op == api.Push:
		return binary.LittleEndian.AppendUint64(b, uint64(in.N))
	case in.Op == api.Load || in.Op == api.Store:
		return append(b, byte(in.N))
	case in.Op >= api.Goto && in.Op <= api.IfNull:
		return raw16(b, in.N)
	case in.Op == api.New || in.Op == api.Cast || in.Op == api.Is:
		return rawName(b, r.Class)
	case in.Op >= api.GetField && in.Op <= api.PutStatic:
		return rawType(rawName(rawName(b, r.Class), r.Name), r.Type)
	case in.Op == api.Invoke || in.Op == api.Call:
		return rawType(rawTypes(rawName(rawName(b, r.Class), r.Name), r.Params), r.Type)
	}
	return b
}

func raw16(b []byte, n int) []byte { return binary.LittleEndian.AppendUint16(b, uint16(n)) }

func rawName(b []byte, s string) []byte { return append(append(b, byte(len(s))), s...) }

func rawFlag(set bool) byte {
	if set {
		return 1
	}
	return 0
}

func rawType(b []byte, t api.Type) []byte {
	b = append(b, byte(t.Kind))
	if t.Kind == api.Object {
		b = rawName(b, t.Class)
	}
	return b
}

func rawTypes(b []byte, l []api.Type) []byte {
	b = append(b, byte(len(l)))
	for _, t := range l {
		b = rawType(b, t)
	}
	return b
}
