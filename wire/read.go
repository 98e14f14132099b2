package wire

import (
	"strings"

	"atrium/api"
	"atrium/shape"
)

// Read gives up if s is not the bytes of a class, and no more than those.
func Read(s string) api.Class {
	r := &reader{rest: s}
	shape.Must(r.take(len(front)) == front)
	c := api.Class{
		Name:    r.name(),
		Super:   r.name(),
		Fields:  list(r.byte(), api.MaxFields, r.field),
		Methods: list(r.byte(), api.MaxMethods, r.method),
	}
	shape.Must(r.rest == "")
	shape.MustBeClass(c)
	return c
}

// reader relies on calls in a literal being made in the order in which they
// stand there, which is the order of the bytes.
type reader struct {
	rest string
}

func (r *reader) take(n int) string {
	shape.Must(n <= len(r.rest))
	taken := r.rest[:n]
	r.rest = r.rest[n:]
	return taken
}

// number has the low byte first.
func (r *reader) number(bytes int) uint64 {
	taken := r.take(bytes)
	n := uint64(0)
	for i := range bytes {
		n |= uint64(taken[i]) << (8 * i)
	}
	return n
}

func (r *reader) byte() int {
	return int(r.number(1))
}

func (r *reader) two() int {
	return int(r.number(2))
}

func (r *reader) eight() int {
	return int(r.number(8))
}

func (r *reader) flag() bool {
	n := r.byte()
	shape.Must(n <= 1)
	return n == 1
}

// name is copied, so that a class does not keep the bytes that it was read from.
func (r *reader) name() string {
	return strings.Clone(r.take(r.byte()))
}

func (r *reader) typ() api.Type {
	t := api.Type{Kind: r.byte()}
	if t.Kind == api.Object {
		t.Class = r.name()
	}
	return t
}

func (r *reader) types(most int) []api.Type {
	return list(r.byte(), most, r.typ)
}

// list asks for the bound ahead of reading, so that no bytes, however many, can
// make a list longer than a class may have.
func list[T any](n, most int, read func() T) []T {
	shape.Must(n <= most)
	var all []T
	for range n {
		all = append(all, read())
	}
	return all
}

func (r *reader) field() api.Field {
	return api.Field{Name: r.name(), Static: r.flag(), Type: r.typ()}
}

func (r *reader) method() api.Method {
	return api.Method{
		Name:     r.name(),
		Static:   r.flag(),
		Params:   r.types(api.MaxParams),
		Result:   r.typ(),
		Locals:   r.byte(),
		Stack:    r.byte(),
		Code:     list(r.two(), api.MaxCode, r.instr),
		Handlers: list(r.byte(), api.MaxHandlers, r.handler),
		Frames:   list(r.byte(), api.MaxFrames, r.frame),
	}
}

func (r *reader) instr() api.Instr {
	in := api.Instr{Op: r.byte()}
	switch shape.OperandOf(in.Op) {
	case shape.Number:
		in.N = r.eight()
	case shape.Local:
		in.N = r.byte()
	case shape.Place:
		in.N = r.two()
	case shape.OfClass:
		in.Ref = api.Ref{Class: r.name()}
	case shape.OfField:
		in.Ref = api.Ref{Class: r.name(), Name: r.name(), Type: r.typ()}
	case shape.OfMethod:
		in.Ref = api.Ref{Class: r.name(), Name: r.name(), Params: r.types(api.MaxParams), Type: r.typ()}
	}
	return in
}

func (r *reader) handler() api.Handler {
	return api.Handler{From: r.two(), To: r.two(), At: r.two(), Class: r.name()}
}

func (r *reader) frame() api.Frame {
	return api.Frame{At: r.two(), Locals: r.types(api.MaxLocals), Stack: r.types(api.MaxStack)}
}
