package machine

import (
	"atrium/api"
	"atrium/base"
)

// target is what a reference comes to.
type target interface {
	// home is the class in which it was found; nil, if nothing was found.
	home() *class
}

// unsought is what was not looked for yet.
type unsought struct{}

type foundClass struct {
	class *class
}

// foundField has its place among the static ones of the class, or in each object.
type foundField struct {
	class *class
	slot  int
}

type foundMethod struct {
	class  *class
	method *method
}

// wrong has the class of the error that says why.
type wrong struct {
	why string
}

func (unsought) home() *class      { return nil }
func (to foundClass) home() *class { return to.class }
func (to foundField) home() *class { return to.class }

func (to foundMethod) home() *class { return to.class }
func (wrong) home() *class          { return nil }

// finder looks for what is named, and answers anything but unsought.
type finder func(m *machine, r api.Ref) target

func findClass(m *machine, r api.Ref) target {
	return m.have(r.Class)
}

func findField(static bool) finder {
	return within(func(c *class, r api.Ref) target {
		home, f := c.field(r.Name, r.Type)
		if home == nil || f.Static != static {
			return wrong{base.NoField}
		}
		return foundField{home, f.slot}
	})
}

func findMethod(static bool) finder {
	return within(func(c *class, r api.Ref) target {
		home, found := c.method(api.Method{Name: r.Name, Params: r.Params, Result: r.Type})
		if home == nil || found.Static != static {
			return wrong{base.NoMethod}
		}
		return foundMethod{home, found}
	})
}

// within has the class first: what is wrong with that is wrong with all of it.
func within(look func(c *class, r api.Ref) target) finder {
	return func(m *machine, r api.Ref) target {
		had := m.have(r.Class)
		switch to := had.(type) {
		case foundClass:
			return look(to.class, r)
		}
		return had
	}
}
