package machine

import (
	"iter"
	"slices"

	"atrium/api"
	"atrium/shape"
)

// standing is how far a class that is there has come.
type standing int

const (
	unstarted standing = iota
	up                 // it is starting, or has started: nobody asks which
	failed
)

// class is one that is there.
type class struct {
	name     string
	super    *class // nil above Object
	read     api.Class
	standing standing
	fields   []field
	methods  []*method
	statics  []value
	blank    []value // what the fields of a new object are, those of the classes above first
}

// field has its place among the statics, or in each object.
type field struct {
	api.Field
	slot int
}

// method has code of its own, since its instructions keep what they have found.
type method struct {
	api.Method
	code []instruction
}

type instruction struct {
	api.Instr
	target target
}

func newClass(read api.Class, super *class) *class {
	c := &class{name: read.Name, super: super, read: read, blank: slices.Clone(super.blank)}
	for _, f := range read.Fields {
		c.addField(f)
	}
	for _, m := range read.Methods {
		c.methods = append(c.methods, newMethod(m))
	}
	return c
}

func (c *class) addField(f api.Field) {
	place := &c.blank
	if f.Static {
		place = &c.statics
	}
	c.fields = append(c.fields, field{f, len(*place)})
	*place = append(*place, blankOf(f.Type))
}

func newMethod(m api.Method) *method {
	code := make([]instruction, 0, len(m.Code))
	for _, in := range m.Code {
		code = append(code, instruction{in, unsought{}})
	}
	return &method{m, code}
}

// taken is how many values a method takes that is called.
func (m *method) taken() int {
	if m.Static {
		return len(m.Params)
	}
	return len(m.Params) + 1
}

// upward goes through a class and those above it.
func (c *class) upward() iter.Seq[*class] {
	return func(yield func(*class) bool) {
		for at := c; at != nil; at = at.super {
			if !yield(at) {
				return
			}
		}
	}
}

func (c *class) isBelow(name string) bool {
	for above := range c.upward() {
		if above.name == name {
			return true
		}
	}
	return false
}

// field answers the first one, and the class that has it: nil, if there is none.
func (c *class) field(name string, t api.Type) (home *class, f field) {
	for home := range c.upward() {
		for _, f := range home.fields {
			if f.Name == name && f.Type == t {
				return home, f
			}
		}
	}
	return nil, field{}
}

// method answers the first one of a signature, and the class that has it: nil,
// if there is none.
func (c *class) method(signature api.Method) (home *class, m *method) {
	for home := range c.upward() {
		if m := home.own(signature); m != nil {
			return home, m
		}
	}
	return nil, nil
}

func (c *class) own(signature api.Method) *method {
	for _, m := range c.methods {
		if shape.HaveOneSignature(m.Method, signature) {
			return m
		}
	}
	return nil
}

// plainMethod is one of the class itself that can be done without anything:
// static, without parameters, and it gives nothing. It may be nil.
func (c *class) plainMethod(name string) *method {
	m := c.own(api.Method{Name: name})
	if m == nil || !m.Static {
		return nil
	}
	return m
}
