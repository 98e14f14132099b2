package machine

import "atrium/api"

// value is an int, a row, an object (by a pointer), or nil: null.
type value any

type row []int

type object struct {
	class  *class
	fields []value
}

// blankOf is what a field is at first.
func blankOf(t api.Type) value {
	if t.Kind == api.Int {
		return 0
	}
	return nil
}

// fault is an object of an error's class. It takes nothing from the heap.
func (m *machine) fault(class string) *object {
	return &object{class: m.there(class)}
}

// takeRoom takes one from the heap and as many more, if there is as much. It
// does not add ahead of asking: the sum could go round.
func (m *machine) takeRoom(more int) bool {
	if more >= m.heap {
		return false
	}
	m.heap -= 1 + more
	return true
}
