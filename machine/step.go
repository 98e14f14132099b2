package machine

import "atrium/base"

func (m *machine) isFull() bool {
	return len(m.under) == m.script.Depth
}

func (m *machine) top() *frame {
	return m.under[len(m.under)-1]
}

// begin copies what is taken: the caller's stack is written over.
func (m *machine) begin(called *method, taken []value) *frame {
	f := &frame{method: called, locals: make([]value, called.Locals)}
	copy(f.locals, taken)
	m.under = append(m.under, f)
	return f
}

func (m *machine) leave() {
	m.under = m.under[:len(m.under)-1]
}

// step does an instruction, or begins a start that it needs: then it is to be
// done anew.
func (m *machine) step() {
	f := m.top()
	f.at, f.next = f.next, f.next+1
	thrown, ready := m.do(f)
	if !ready {
		f.next = f.at
		return
	}
	m.meter.count()
	if thrown != nil {
		m.throw(thrown)
	}
}

func (m *machine) do(f *frame) (thrown *object, ready bool) {
	if f.thrown != nil {
		thrown, f.thrown = f.thrown, nil
		return thrown, true
	}
	in := &f.method.code[f.at]
	op := m.table[in.Op]
	if op.finds == nil || op.unless != nil && op.unless(f) {
		return op.plain(m, f, in.N), true
	}
	m.lookFor(op, in)
	if home := in.target.home(); op.starts && home != nil {
		if thrown, ready = m.start(home); thrown != nil || !ready {
			return thrown, ready
		}
	}
	return m.doWith(op, f, in.target), true
}

func (m *machine) lookFor(op operation, in *instruction) {
	switch in.target.(type) {
	case unsought:
		in.target = op.finds(m, in.Ref)
	}
}

func (m *machine) doWith(op operation, f *frame, to target) (thrown *object) {
	switch to := to.(type) {
	case foundClass:
		return op.class(m, f, to.class)
	case foundField:
		return op.field(m, f, to)
	case foundMethod:
		return op.method(m, f, to.method)
	case wrong:
		return m.fault(to.why)
	}
	return nil
}

// throw goes on at the first handler; methods that have none are left.
func (m *machine) throw(thrown *object) {
	for len(m.under) > 0 {
		f := m.top()
		if f.catches(thrown) {
			return
		}
		m.leave()
		if f.starts == nil {
			continue
		}
		m.failStart(f.starts)
		thrown = m.outOfStart(thrown)
		if len(m.under) > 0 {
			// To throw it is what that instruction does, if there is fuel for it.
			m.top().thrown = thrown
			return
		}
	}
	m.uncaught = thrown
}

func (m *machine) outOfStart(thrown *object) *object {
	if thrown.class.isBelow(base.Error) {
		return thrown
	}
	return m.fault(base.BadInit)
}
