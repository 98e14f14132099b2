package machine

import (
	"atrium/api"
	"atrium/base"
)

// start brings a class nearer to having started. It is ready when there is
// nothing left to be done for that, or it has thrown; else the start of a class
// is under way, behind which it is to be asked again.
func (m *machine) start(c *class) (thrown *object, ready bool) {
	for !c.isUp() {
		next := c.nextToStart()
		if c.standing == failed || next.standing == failed {
			return m.fault(base.NoClass), true
		}
		if !m.isSound(next) {
			next.standing = failed
			return m.fault(base.BadClass), true
		}
		if thrown, ready = m.startOne(next); thrown != nil || !ready {
			return thrown, ready
		}
	}
	return nil, true
}

func (c *class) isUp() bool {
	return c.standing == starting || c.standing == started
}

// nextToStart is the uppermost that is not up: the class itself is not.
func (c *class) nextToStart() *class {
	next := c
	for above := range c.upward() {
		if !above.isUp() {
			next = above
		}
	}
	return next
}

// isSound checks a class, and remembers what that hangs on.
func (m *machine) isSound(c *class) bool {
	granted, _, _, e := m.calls.Check(c.read)
	if e != api.OK {
		return false
	}
	var later []api.Below
	for _, g := range granted {
		below := m.there(g.Class)
		if below == nil {
			later = append(later, g)
		} else if !below.isBelow(g.Above) {
			return false
		}
	}
	m.granted = append(m.granted, later...)
	return true
}

func (m *machine) startOne(c *class) (thrown *object, ready bool) {
	c.standing = starting
	m.tell(api.Started, c.name)
	start := c.plainMethod("start")
	switch {
	case start == nil:
		m.endStart(c)
		return nil, true
	case m.isFull():
		m.failStart(c)
		return m.fault(base.Deep), true
	}
	m.begin(start, nil).starts = c
	return nil, false
}

func (m *machine) endStart(c *class) {
	c.standing = started
	m.tell(api.Ended, c.name)
}

func (m *machine) failStart(c *class) {
	c.standing = failed
	m.tell(api.Failed, c.name)
}
