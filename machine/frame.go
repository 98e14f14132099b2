package machine

import "atrium/api"

// frame is a method that is under way.
type frame struct {
	method        *method
	at            int // the instruction that is being done, or has called
	next          int // the one that is to be done next
	locals, stack []value
	starts        *class  // whose start it is, if it is one
	thrown        *object // by a start that the instruction needed
}

func (f *frame) lay(v value) {
	f.stack = append(f.stack, v)
}

func (f *frame) take() value {
	return f.takeLast(1)[0]
}

// takeLast answers them in their order, the deepest first.
func (f *frame) takeLast(n int) []value {
	left := len(f.stack) - n
	taken := f.stack[left:]
	f.stack = f.stack[:left]
	return taken
}

// deep is a value that lies under so many others.
func (f *frame) deep(under int) value {
	return f.stack[len(f.stack)-1-under]
}

// What follows panics at a value of another kind. That would be the checker's
// fault: better no answer than one of a value that is no such thing.

func (f *frame) takeInt() int {
	return f.take().(int)
}

func (f *frame) takeInts() (deeper, upper int) {
	taken := f.takeLast(2)
	return taken[0].(int), taken[1].(int)
}

func (f *frame) takeRow() row {
	v := f.take()
	if v == nil {
		return nil
	}
	return v.(row)
}

func (f *frame) takeObject() *object {
	return asObject(f.take())
}

func asObject(v value) *object {
	if v == nil {
		return nil
	}
	return v.(*object)
}

// catches goes on at the first handler for what is thrown, if there is one.
func (f *frame) catches(thrown *object) bool {
	for _, h := range f.method.Handlers {
		if f.isWithin(h) && (h.Class == "" || thrown.class.isBelow(h.Class)) {
			f.next = h.At
			f.stack = append(f.stack[:0], thrown)
			return true
		}
	}
	return false
}

func (f *frame) isWithin(h api.Handler) bool {
	return h.From <= f.at && f.at < h.To
}
