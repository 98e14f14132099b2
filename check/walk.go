package check

import (
	"cmp"
	"slices"

	"atrium/api"
	"atrium/base"
)

// state is which types there are where an instruction begins. Its lists are its
// own: a frame's are copied, since they are handed in.
type state struct {
	locals, stack []api.Type
}

// walk is a method that is gone through.
type walk struct {
	class   api.Class
	granted map[api.Below]struct{} // of all methods of the class
	number  int                    // of the method
	method  api.Method
	at      int // the instruction that is looked at
	now     state
	reached bool // whether there is a state
}

// must gives up on the instruction unless what is asked for holds.
func (w *walk) must(holds bool) {
	if !holds {
		panic(Wrong{w.number, w.at})
	}
}

func (w *walk) goThrough(table []operation) {
	w.now, w.reached = w.first(), true
	for at, in := range w.method.Code {
		w.at = at
		w.meetFrame()
		w.meetHandlers()
		w.do(table[in.Op], in)
	}
	w.must(!w.reached)
}

// first is the state ahead of a method's first instruction.
func (w *walk) first() state {
	locals := make([]api.Type, 0, w.method.Locals)
	if !w.method.Static {
		locals = append(locals, object(w.class.Name))
	}
	locals = append(locals, w.method.Params...)
	for len(locals) < w.method.Locals {
		locals = append(locals, api.Type{Kind: api.Top})
	}
	return state{locals: locals}
}

func (w *walk) meetFrame() {
	f, found := w.frame(w.at)
	if !found {
		w.must(w.reached)
		return
	}
	w.must(!slices.Contains(f.Stack, api.Type{Kind: api.Top}))
	if w.reached {
		w.mustFit(w.now, f)
	}
	w.now, w.reached = state{slices.Clone(f.Locals), slices.Clone(f.Stack)}, true
}

func (w *walk) meetHandlers() {
	for _, h := range w.method.Handlers {
		if h.From <= w.at && w.at < h.To {
			w.meetHandler(h.At, cmp.Or(h.Class, base.Throwable))
		}
	}
}

func (w *walk) meetHandler(at int, class string) {
	w.must(w.isBelow(class, base.Throwable))
	w.mustFitAt(state{w.now.locals, []api.Type{object(class)}}, at)
}

func (w *walk) do(op operation, in api.Instr) {
	if op.takes != nil {
		op.takes(w, in)
	}
	if op.lays != nil {
		op.lays(w, in)
	}
	if op.goes {
		w.mustFitAt(w.now, in.N)
	}
	w.reached = !op.ends
}

func (w *walk) frame(at int) (f api.Frame, found bool) {
	i, found := slices.BinarySearchFunc(w.method.Frames, at, func(f api.Frame, at int) int {
		return cmp.Compare(f.At, at)
	})
	if !found {
		return api.Frame{}, false
	}
	return w.method.Frames[i], true
}
