package machine

import (
	"atrium/api"
	"atrium/base"
)

// start brings a class nearer to having started. It is ready when there is
// nothing left to be done for that, or it has thrown; else whoever needs the class
// asks anew, behind the start that is under way now, if there is one.
func (m *machine) start(c *class) (thrown *object, ready bool) {
	if c.standing == up {
		return nil, true
	}
	next := c.nextToStart()
	switch {
	case next.standing == failed: // the class itself, or one above it
		return m.fault(base.NoClass), true
	case !m.isSound(next):
		next.standing = failed
		return m.fault(base.BadClass), true
	}
	thrown = m.startOne(next)
	return thrown, thrown != nil
}

// nextToStart is the uppermost that is not up: the class itself is not.
func (c *class) nextToStart() *class {
	next := c
	for above := range c.upward() {
		if above.standing != up {
			next = above
		}
	}
	return next
}

// isSound checks a class, and remembers what that hangs on.
func (m *machine) isSound(c *class) bool {
	granted, _, _, e := m.calls.Check(c.read)
	if e != api.OK {
		return false
	}
	var later []api.Below
	for _, g := range granted {
		below := m.there(g.Class)
		if below == nil {
			later = append(later, g)
		} else if !below.isBelow(g.Above) {
			return false
		}
	}
	m.granted = append(m.granted, later...)
	return true
}

func (m *machine) startOne(c *class) (thrown *object) {
	c.standing = up
	m.tell(api.Started, c.name)
	start := c.plainMethod("start")
	switch {
	case start == nil:
		m.tell(api.Ended, c.name)
		return nil
	case m.isFull():
		m.failStart(c)
		return m.fault(base.Deep)
	}
	m.begin(start, nil).starts = c
	return nil
}

func (m *machine) failStart(c *class) {
	c.standing = failed
	m.tell(api.Failed, c.name)
}
