package machine

import (
	"slices"

	"atrium/api"
	"atrium/base"
)

// haveBase lays the classes that are there from the beginning. Nothing is ever
// to be done to start them.
func (m *machine) haveBase() {
	for _, name := range base.Names() {
		super, _ := base.Super(name)
		m.names[name] = foundClass{&class{name: name, super: m.there(super), standing: up}}
	}
}

// there answers nil for a class that is not there.
func (m *machine) there(name string) *class {
	switch to := m.names[name].(type) {
	case foundClass:
		return to.class
	}
	return nil
}

// have answers a class, or what is wrong, the same each time.
func (m *machine) have(name string) target {
	if to, asked := m.names[name]; asked {
		return to
	}
	// Who needs a class while it is just being had is one of those above it.
	m.names[name] = wrong{base.Circular}
	to := m.ask(name)
	m.names[name] = to
	return to
}

func (m *machine) ask(name string) target {
	m.tell(api.Asked, name)
	read, why := m.fetch(name)
	if why != "" {
		return wrong{why}
	}
	above := m.have(read.Super)
	switch to := above.(type) {
	case foundClass:
		return m.admit(newClass(read, to.class))
	}
	return above
}

// fetch answers the one entry of a name, or the class of an error.
func (m *machine) fetch(name string) (read api.Class, why string) {
	var all []api.Entry
	for _, e := range m.script.Entries {
		if e.Name == name {
			all = append(all, e)
		}
	}
	if len(all) != 1 {
		return api.Class{}, base.NoClass
	}
	read, e := m.calls.Decode(all[0].Bytes)
	if e != api.OK || read.Name != name {
		return api.Class{}, base.BadForm
	}
	return read, ""
}

// admit looks at what can be told of a class just now that all above it are there.
func (m *machine) admit(c *class) target {
	if slices.ContainsFunc(c.methods, c.clashesAbove) {
		return wrong{base.BadForm}
	}
	for _, g := range m.granted {
		if g.Class == c.name && !c.isBelow(g.Above) {
			return wrong{base.BadClass}
		}
	}
	return foundClass{c}
}

// clashesAbove tells whether there is such a method above, and just one of the
// two is static.
func (c *class) clashesAbove(m *method) bool {
	for above := range c.super.upward() {
		other := above.own(m.Method)
		if other != nil && other.Static != m.Static {
			return true
		}
	}
	return false
}
