// Package wire writes classes as bytes and reads them: the document's 'As bytes'.
// What is no class is given up on as package shape does it.
package wire

import (
	"atrium/api"
	"atrium/shape"
)

// front stands ahead of every class.
const front = "CLAS"

// Write gives up if c is no class: so every number has room in its bytes.
func Write(c api.Class) string {
	shape.MustBeClass(c)
	w := &writer{}
	w.text(front)
	w.name(c.Name)
	w.name(c.Super)
	w.byte(len(c.Fields))
	for _, f := range c.Fields {
		w.name(f.Name)
		w.flag(f.Static)
		w.typ(f.Type)
	}
	w.byte(len(c.Methods))
	for _, m := range c.Methods {
		w.method(m)
	}
	return string(w.out)
}

type writer struct {
	out []byte
}

func (w *writer) text(s string) {
	w.out = append(w.out, s...)
}

// number lays the low byte first.
func (w *writer) number(n uint64, bytes int) {
	for range bytes {
		w.out = append(w.out, byte(n))
		n >>= 8
	}
}

func (w *writer) byte(n int) {
	w.number(uint64(n), 1)
}

func (w *writer) two(n int) {
	w.number(uint64(n), 2)
}

func (w *writer) eight(n int) {
	w.number(uint64(n), 8)
}

func (w *writer) flag(set bool) {
	if set {
		w.byte(1)
		return
	}
	w.byte(0)
}

func (w *writer) name(s string) {
	w.byte(len(s))
	w.text(s)
}

func (w *writer) typ(t api.Type) {
	w.byte(t.Kind)
	if t.Kind == api.Object {
		w.name(t.Class)
	}
}

func (w *writer) types(types []api.Type) {
	w.byte(len(types))
	for _, t := range types {
		w.typ(t)
	}
}

func (w *writer) method(m api.Method) {
	w.name(m.Name)
	w.flag(m.Static)
	w.types(m.Params)
	w.typ(m.Result)
	w.byte(m.Locals)
	w.byte(m.Stack)
	w.two(len(m.Code))
	for _, in := range m.Code {
		w.instr(in)
	}
	w.byte(len(m.Handlers))
	for _, h := range m.Handlers {
		w.handler(h)
	}
	w.byte(len(m.Frames))
	for _, f := range m.Frames {
		w.frame(f)
	}
}

func (w *writer) instr(in api.Instr) {
	w.byte(in.Op)
	switch shape.OperandOf(in.Op) {
	case shape.Number:
		w.eight(in.N)
	case shape.Local:
		w.byte(in.N)
	case shape.Place:
		w.two(in.N)
	case shape.OfClass:
		w.name(in.Ref.Class)
	case shape.OfField:
		w.name(in.Ref.Class)
		w.name(in.Ref.Name)
		w.typ(in.Ref.Type)
	case shape.OfMethod:
		w.name(in.Ref.Class)
		w.name(in.Ref.Name)
		w.types(in.Ref.Params)
		w.typ(in.Ref.Type)
	}
}

func (w *writer) handler(h api.Handler) {
	w.two(h.From)
	w.two(h.To)
	w.two(h.At)
	w.name(h.Class)
}

func (w *writer) frame(f api.Frame) {
	w.two(f.At)
	w.types(f.Locals)
	w.types(f.Stack)
}
