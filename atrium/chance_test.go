package atrium_test

import (
	"math/rand"
	"slices"

	"atrium/api"
)

// chance makes up repositories of which most classes are sound and nothing else
// is sure: what is taken for granted may not be so, entries may lack, stand
// there twice, be no class.
type chance struct {
	*rand.Rand
	classes []api.Class
}

// program is a method that is being made up.
type program struct {
	*chance
	class  *api.Class
	m      api.Method
	locals []api.Type // what is known of them
}

func (c *chance) one(of int) bool { return c.Intn(of) == 0 }

func pick[T any](c *chance, from []T) T { return from[c.Intn(len(from))] }

// name is mostly that of a class of the repository.
func (c *chance) name() string {
	if c.one(8) {
		return pick(c, []string{"Object", "Error", "Throwable", "Arith", "X"})
	}
	return pick(c, c.classes).Name
}

// thrown is mostly a class that can be thrown.
func (c *chance) thrown() string {
	class := pick(c, c.classes)
	if class.Super == "Error" || class.Super == "Throwable" || c.one(30) {
		return class.Name
	}
	return pick(c, []string{"Arith", "Error", "Throwable"})
}

func (c *chance) typ() api.Type {
	switch c.Intn(4) {
	case 0, 1:
		return anInt
	case 2:
		return aRow
	}
	return object(c.name())
}

func (c *chance) typs(most int) []api.Type {
	var l []api.Type
	for range c.Intn(most + 1) {
		l = append(l, c.typ())
	}
	return l
}

// anyScript answers a script that keeps to its bounds.
func anyScript(seed int64) api.Script {
	c := &chance{Rand: rand.New(rand.NewSource(seed))}
	for i := range 2 + c.Intn(6) {
		c.classes = append(c.classes, api.Class{Name: string(rune('A' + i))})
	}
	for i := range c.classes {
		c.outline(&c.classes[i])
	}
	c.classes[0].Methods = append(c.classes[0].Methods, api.Method{Name: "main", Static: true})
	for i := range c.classes {
		for j := range c.classes[i].Methods {
			c.fill(&c.classes[i], &c.classes[i].Methods[j])
		}
	}
	return api.Script{Entries: c.entries(), Main: "A", Inputs: []int{3, 0, -1}, Fuel: 300, Heap: 10 + c.Intn(60), Depth: 1 + c.Intn(8)}
}

// entries are spoilt now and then.
func (c *chance) entries() []api.Entry {
	l := entries(c.classes...)
	for i := range l {
		switch c.Intn(40) {
		case 0:
			l = append(l, l[i])
		case 1:
			l[i].Name = "Y"
		case 2:
			b := []byte(l[i].Bytes)
			b[c.Intn(len(b))] ^= byte(1 << c.Intn(8))
			l[i].Bytes = string(b)
		}
	}
	c.Shuffle(len(l), func(i, j int) { l[i], l[j] = l[j], l[i] })
	return l
}

func (c *chance) outline(class *api.Class) {
	class.Super = pick(c, []string{"Object", "Object", "Error", "Throwable"})
	if c.one(2) {
		above := pick(c, c.classes).Name
		if above > class.Name || c.one(6) {
			class.Super = above
		}
	}
	for i := range c.Intn(4) {
		class.Fields = append(class.Fields, api.Field{Name: letter(i), Static: c.one(2), Type: c.typ()})
	}
	for i := range c.Intn(4) {
		m := api.Method{Name: letter(i), Static: i == 0 || i > 1 && c.one(2), Params: c.typs(2)}
		if c.one(2) {
			m.Result = c.typ()
		}
		class.Methods = append(class.Methods, m)
	}
	if c.one(2) {
		class.Methods = append(class.Methods, api.Method{Name: "start", Static: true})
	}
}

func (c *chance) fill(class *api.Class, m *api.Method) {
	p := &program{chance: c, class: class, m: *m}
	if !m.Static {
		p.locals = append(p.locals, object(class.Name))
	}
	p.locals = append(p.locals, m.Params...)
	for range 2 {
		p.locals = append(p.locals, top)
	}
	p.m.Locals, p.m.Stack = len(p.locals), api.MaxStack
	p.statements(1 + c.Intn(6))
	p.end()
	p.handlers()
	if c.one(150) {
		p.m.Code[c.Intn(len(p.m.Code))] = op(c.Intn(api.Size + 1))
	}
	*m = p.m
}

func (p *program) lay(in ...api.Instr) { p.m.Code = append(p.m.Code, in...) }

// forget lays a frame here.
func (p *program) forget(stack ...api.Type) {
	for i := range p.locals {
		p.locals[i] = top
	}
	if at := len(p.m.Code); len(p.m.Frames) == 0 || p.m.Frames[len(p.m.Frames)-1].At < at {
		p.m.Frames = append(p.m.Frames, frameAt(p.m, at, stack...))
	}
}

func (p *program) end() {
	if p.m.Result.Kind == api.Void {
		p.lay(ret)
		return
	}
	p.value(p.m.Result, 1)
	p.lay(giving)
}

func (p *program) handlers() {
	to := len(p.m.Code)
	for range min(p.Intn(3), api.MaxHandlers-len(p.m.Handlers)) {
		class := pick(p.chance, []string{"", "Error", "NoClass", "NullRef", p.thrown()})
		p.m.Handlers = append(p.m.Handlers, api.Handler{From: p.Intn(to), To: to, At: len(p.m.Code), Class: class})
		if class == "" {
			class = "Throwable"
		}
		p.forget(object(class))
		p.lay(pop, num(90+len(p.m.Handlers)), show)
		p.end()
	}
}

func (p *program) statements(n int) {
	for range n {
		if len(p.m.Code) < 120 {
			p.statement()
		}
	}
}

// statement leaves the stack as it was: empty.
func (p *program) statement() {
	switch p.Intn(14) {
	case 11, 12, 13:
		p.guard()
	case 0, 1:
		p.value(anInt, 2)
		p.lay(show)
	case 2:
		p.value(p.typ(), 2)
		p.lay(pop)
	case 3:
		at := len(p.locals) - 1 - p.Intn(2)
		t := p.typ()
		p.value(t, 2)
		p.lay(with(api.Store, at))
		p.locals[at] = t
	case 4:
		p.put()
	case 5, 6:
		p.callAny()
	case 7:
		p.value(aRow, 1)
		p.value(anInt, 1)
		p.value(anInt, 1)
		p.lay(op(api.PutAt))
	case 8:
		p.choice()
	case 9:
		p.loop()
	case 10:
		if p.one(3) {
			p.value(object(p.thrown()), 1)
			p.lay(throw)
			p.forget()
		}
	}
}

func (p *program) put() {
	class := pick(p.chance, p.classes)
	if len(class.Fields) == 0 {
		return
	}
	f := pick(p.chance, class.Fields)
	if f.Static != p.one(10) {
		p.value(f.Type, 2)
		p.lay(fieldOf(api.PutStatic, class.Name, f.Name, f.Type))
		return
	}
	p.value(object(class.Name), 1)
	p.value(f.Type, 1)
	p.lay(fieldOf(api.PutField, class.Name, f.Name, f.Type))
}

func (p *program) callAny() {
	class := pick(p.chance, p.classes)
	if len(class.Methods) == 0 {
		return
	}
	m := pick(p.chance, class.Methods)
	p.call(class.Name, m)
	if m.Result.Kind != api.Void {
		p.lay(pop)
	}
}

func (p *program) call(class string, m api.Method) {
	operation := api.Call
	if m.Static == p.one(10) {
		operation = api.Invoke
		p.value(object(class), 1)
	}
	for _, t := range m.Params {
		p.value(t, 1)
	}
	p.lay(methodOf(operation, class, m.Name, m.Result, m.Params...))
}

func (p *program) choice() {
	operation := pick(p.chance, []int{api.IfZero, api.IfLess, api.IfNull})
	switch operation {
	case api.IfNull:
		p.value(pick(p.chance, []api.Type{aRow, object(p.name())}), 1)
	case api.IfLess:
		p.value(anInt, 1)
		fallthrough
	default:
		p.value(anInt, 1)
	}
	at := len(p.m.Code)
	p.lay(op(operation))
	p.statements(2)
	p.forget()
	p.m.Code[at].N = len(p.m.Code)
	p.lay(op(api.Nop))
}

// guard goes on behind whatever is thrown in some statements.
func (p *program) guard() {
	from := len(p.m.Code)
	p.statements(2)
	to := len(p.m.Code)
	if len(p.m.Handlers) > 6 || from == to {
		return
	}
	p.lay(with(api.Goto, to+4))
	p.m.Handlers = append(p.m.Handlers, api.Handler{From: from, To: to, At: to + 1})
	p.forget(aThrowable)
	p.lay(pop, num(60+len(p.m.Handlers)), show)
	p.forget()
	p.lay(op(api.Nop))
}

func (p *program) loop() {
	p.forget()
	at := len(p.m.Code)
	p.lay(op(api.Nop))
	p.statements(2)
	p.value(anInt, 1)
	p.lay(with(api.IfZero, at))
}

// value lays code that lays a value of a type, or of one that is taken for it.
func (p *program) value(t api.Type, deep int) {
	if at := slices.Index(p.locals, t); at >= 0 && p.one(2) {
		p.lay(with(api.Load, at))
		return
	}
	if deep > 0 && p.one(3) && p.found(t, deep-1) {
		return
	}
	switch t.Kind {
	case api.Int:
		p.number(deep)
	case api.Ints:
		p.row()
	default:
		p.object(t.Class, deep)
	}
}

// found takes it from a field, or has it given by a method.
func (p *program) found(t api.Type, deep int) bool {
	class := pick(p.chance, p.classes)
	for _, f := range class.Fields {
		if f.Type == t && f.Static {
			p.lay(fieldOf(api.GetStatic, class.Name, f.Name, t))
			return true
		}
		if f.Type == t && deep > 0 {
			p.object(class.Name, deep-1)
			p.lay(fieldOf(api.GetField, class.Name, f.Name, t))
			return true
		}
	}
	for _, m := range class.Methods {
		if m.Result == t && len(m.Params) == 0 {
			p.call(class.Name, m)
			return true
		}
	}
	return false
}

func (p *program) number(deep int) {
	switch p.Intn(7) {
	case 0:
		p.lay(read)
	case 1, 2:
		if deep > 0 {
			p.value(anInt, deep-1)
			p.value(anInt, deep-1)
			p.lay(op(pick(p.chance, []int{api.Add, api.Sub, api.Mul, api.Div})))
			return
		}
		p.lay(num(0))
	case 3:
		p.row()
		p.lay(op(api.Size))
	case 4:
		p.row()
		p.lay(num(p.Intn(3)), op(api.GetAt))
	case 5:
		p.object(p.name(), 0)
		p.lay(ofClass(api.Is, p.name()))
	default:
		p.lay(num(p.Intn(5) - 1))
	}
}

func (p *program) row() {
	if p.one(10) {
		p.lay(nulled)
		return
	}
	p.lay(num(p.Intn(6)-p.Intn(2)), op(api.NewInts))
}

func (p *program) object(class string, deep int) {
	switch p.Intn(30) {
	case 0, 1:
		p.lay(nulled)
	case 2:
		p.lay(made(p.name()))
	case 3, 4, 5:
		p.lay(made(p.name()), ofClass(api.Cast, class))
	case 6, 7, 8:
		if !p.m.Static && p.locals[0].Kind == api.Object {
			p.lay(op(api.Load))
			return
		}
		fallthrough
	default:
		p.lay(made(class))
	}
}
