package machine

import (
	"slices"

	"atrium/api"
	"atrium/base"
)

// operation says what is done for it. What it names, if it names something, is
// looked for first, and the function for what was found is done.
type operation struct {
	finds  finder              // nil, if it names nothing
	unless func(f *frame) bool // then nothing is looked for, and plain is done
	starts bool                // the class where it was found

	plain  func(m *machine, f *frame, n int) (thrown *object)
	class  func(m *machine, f *frame, c *class) (thrown *object)
	field  func(m *machine, f *frame, to foundField) (thrown *object)
	method func(m *machine, f *frame, called *method) (thrown *object)
}

// operations has them at the places of their numbers.
func operations() []operation {
	return []operation{
		api.Nop:       {plain: doNothing},
		api.Push:      {plain: push},
		api.Load:      {plain: load},
		api.Store:     {plain: store},
		api.Pop:       {plain: pop},
		api.Dup:       {plain: dup},
		api.Add:       {plain: reckon(func(a, b int) int { return a + b })},
		api.Sub:       {plain: reckon(func(a, b int) int { return a - b })},
		api.Mul:       {plain: reckon(func(a, b int) int { return a * b })},
		api.Div:       {plain: divide},
		api.Goto:      {plain: goTo},
		api.IfZero:    {plain: ifZero},
		api.IfLess:    {plain: ifLess},
		api.IfNull:    {plain: ifNull},
		api.PushNull:  {plain: pushNull},
		api.New:       {finds: findClass, starts: true, class: makeObject},
		api.GetField:  {finds: findField(false), field: getField},
		api.PutField:  {finds: findField(false), field: putField},
		api.GetStatic: {finds: findField(true), starts: true, field: getStatic},
		api.PutStatic: {finds: findField(true), starts: true, field: putStatic},
		api.Invoke:    {finds: findMethod(false), method: invoke},
		api.Call:      {finds: findMethod(true), starts: true, method: call},
		api.Return:    {plain: goBack},
		api.Give:      {plain: give},
		api.Throw:     {plain: throw},
		api.Cast:      {finds: findClass, unless: isNull, plain: doNothing, class: cast},
		api.Is:        {finds: findClass, unless: isNull, plain: isNone, class: is},
		api.Print:     {plain: show},
		api.Read:      {plain: read},
		api.NewInts:   {plain: makeRow},
		api.GetAt:     {plain: getAt},
		api.PutAt:     {plain: putAt},
		api.Size:      {plain: size},
	}
}

func doNothing(_ *machine, _ *frame, _ int) *object {
	return nil
}

func push(_ *machine, f *frame, n int) *object {
	f.lay(n)
	return nil
}

func pushNull(_ *machine, f *frame, _ int) *object {
	f.lay(nil)
	return nil
}

func load(_ *machine, f *frame, n int) *object {
	f.lay(f.locals[n])
	return nil
}

func store(_ *machine, f *frame, n int) *object {
	f.locals[n] = f.take()
	return nil
}

func pop(_ *machine, f *frame, _ int) *object {
	f.take()
	return nil
}

func dup(_ *machine, f *frame, _ int) *object {
	f.lay(f.deep(0))
	return nil
}

func reckon(with func(a, b int) int) func(*machine, *frame, int) *object {
	return func(_ *machine, f *frame, _ int) *object {
		f.lay(with(f.takeInts()))
		return nil
	}
}

func divide(m *machine, f *frame, _ int) *object {
	a, b := f.takeInts()
	if b == 0 {
		return m.fault(base.Arith)
	}
	f.lay(a / b)
	return nil
}

func (f *frame) goIf(holds bool, n int) *object {
	if holds {
		f.next = n
	}
	return nil
}

func goTo(_ *machine, f *frame, n int) *object {
	return f.goIf(true, n)
}

func ifZero(_ *machine, f *frame, n int) *object {
	return f.goIf(f.takeInt() == 0, n)
}

func ifLess(_ *machine, f *frame, n int) *object {
	a, b := f.takeInts()
	return f.goIf(a < b, n)
}

func ifNull(_ *machine, f *frame, n int) *object {
	return f.goIf(f.take() == nil, n)
}

func makeObject(m *machine, f *frame, c *class) *object {
	if !m.takeRoom(len(c.blank)) {
		return m.fault(base.Heap)
	}
	f.lay(&object{class: c, fields: slices.Clone(c.blank)})
	return nil
}

func getField(m *machine, f *frame, to foundField) *object {
	of := f.takeObject()
	if of == nil {
		return m.fault(base.NullRef)
	}
	f.lay(of.fields[to.slot])
	return nil
}

func putField(m *machine, f *frame, to foundField) *object {
	v := f.take()
	of := f.takeObject()
	if of == nil {
		return m.fault(base.NullRef)
	}
	of.fields[to.slot] = v
	return nil
}

func getStatic(_ *machine, f *frame, to foundField) *object {
	f.lay(to.class.statics[to.slot])
	return nil
}

func putStatic(_ *machine, f *frame, to foundField) *object {
	to.class.statics[to.slot] = f.take()
	return nil
}

func call(m *machine, f *frame, called *method) *object {
	if m.isFull() {
		return m.fault(base.Deep)
	}
	m.begin(called, f.takeLast(called.taken()))
	return nil
}

// invoke finds one: the object's class is below the one where the method was
// found, and none between has a static one in its place.
func invoke(m *machine, f *frame, named *method) *object {
	of := asObject(f.deep(len(named.Params)))
	if of == nil {
		return m.fault(base.NullRef)
	}
	_, called := of.class.method(named.Method)
	return call(m, f, called)
}

func goBack(m *machine, f *frame, _ int) *object {
	m.leave()
	if f.starts != nil {
		m.tell(api.Ended, f.starts.name)
	}
	return nil
}

// give has somebody to give to: neither main nor a start gives anything.
func give(m *machine, f *frame, _ int) *object {
	m.leave()
	m.top().lay(f.take())
	return nil
}

func throw(m *machine, f *frame, _ int) *object {
	thrown := f.takeObject()
	if thrown == nil {
		return m.fault(base.NullRef)
	}
	return thrown
}

func isNull(f *frame) bool {
	return f.deep(0) == nil
}

func cast(m *machine, f *frame, c *class) *object {
	if !asObject(f.deep(0)).class.isBelow(c.name) {
		return m.fault(base.BadCast)
	}
	return nil
}

func isNone(_ *machine, f *frame, _ int) *object {
	f.take()
	f.lay(0)
	return nil
}

func is(_ *machine, f *frame, c *class) *object {
	if f.takeObject().class.isBelow(c.name) {
		f.lay(1)
		return nil
	}
	f.lay(0)
	return nil
}

func show(m *machine, f *frame, _ int) *object {
	m.events = append(m.events, api.Event{Kind: api.Printed, N: f.takeInt()})
	return nil
}

func read(m *machine, f *frame, _ int) *object {
	if m.inputs == len(m.script.Inputs) {
		f.lay(0)
		return nil
	}
	f.lay(m.script.Inputs[m.inputs])
	m.inputs++
	return nil
}

func makeRow(m *machine, f *frame, _ int) *object {
	n := f.takeInt()
	switch {
	case n < 0:
		return m.fault(base.BadSize)
	case !m.takeRoom(n):
		return m.fault(base.Heap)
	}
	f.lay(make(row, n))
	return nil
}

func (m *machine) mustHave(r row, i int) *object {
	switch {
	case r == nil:
		return m.fault(base.NullRef)
	case i < 0 || i >= len(r):
		return m.fault(base.Bounds)
	}
	return nil
}

func getAt(m *machine, f *frame, _ int) *object {
	i := f.takeInt()
	r := f.takeRow()
	if thrown := m.mustHave(r, i); thrown != nil {
		return thrown
	}
	f.lay(r[i])
	return nil
}

func putAt(m *machine, f *frame, _ int) *object {
	i, n := f.takeInts()
	r := f.takeRow()
	if thrown := m.mustHave(r, i); thrown != nil {
		return thrown
	}
	r[i] = n
	return nil
}

func size(m *machine, f *frame, _ int) *object {
	r := f.takeRow()
	if r == nil {
		return m.fault(base.NullRef)
	}
	f.lay(len(r))
	return nil
}
