package check

import (
	"slices"

	"atrium/api"
	"atrium/base"
)

type action func(w *walk, in api.Instr)

// operation is a row of the document's table.
type operation struct {
	takes, lays action // nil, where there is nothing to be done
	goes        bool   // elsewhere
	ends        bool   // there is no state behind it
}

// operations has them at the places of their numbers.
func operations() []operation {
	number, row := api.Type{Kind: api.Int}, api.Type{Kind: api.Ints}
	reckon := operation{takes: take(number, number), lays: lay(number)}
	return []operation{
		api.Nop:       {},
		api.Push:      {lays: lay(number)},
		api.Load:      {lays: layLocal},
		api.Store:     {takes: takeIntoLocal},
		api.Pop:       {takes: takeAny},
		api.Dup:       {lays: layAgain},
		api.Add:       reckon,
		api.Sub:       reckon,
		api.Mul:       reckon,
		api.Div:       reckon,
		api.Goto:      {goes: true, ends: true},
		api.IfZero:    {takes: take(number), goes: true},
		api.IfLess:    {takes: take(number, number), goes: true},
		api.IfNull:    {takes: takeKind(api.Object, api.Ints, api.Null), goes: true},
		api.PushNull:  {lays: lay(api.Type{Kind: api.Null})},
		api.New:       {lays: layObject},
		api.GetField:  {takes: takeObject, lays: layType},
		api.PutField:  {takes: takeObjectAndType},
		api.GetStatic: {lays: layType},
		api.PutStatic: {takes: takeType},
		api.Invoke:    {takes: takeObjectAndParams, lays: layType},
		api.Call:      {takes: takeParams, lays: layType},
		api.Return:    {takes: takeNothingToGive, ends: true},
		api.Give:      {takes: takeWhatIsGiven, ends: true},
		api.Throw:     {takes: take(object(base.Throwable)), ends: true},
		api.Cast:      {takes: takeKind(api.Object, api.Null), lays: layObject},
		api.Is:        {takes: takeKind(api.Object, api.Null), lays: lay(number)},
		api.Print:     {takes: take(number)},
		api.Read:      {lays: lay(number)},
		api.NewInts:   {takes: take(number), lays: lay(row)},
		api.GetAt:     {takes: take(row, number), lays: lay(number)},
		api.PutAt:     {takes: take(row, number, number)},
		api.Size:      {takes: take(row), lays: lay(number)},
	}
}

func (w *walk) take() api.Type {
	t := w.last()
	w.now.stack = w.now.stack[:len(w.now.stack)-1]
	return t
}

func (w *walk) last() api.Type {
	w.must(len(w.now.stack) > 0)
	return w.now.stack[len(w.now.stack)-1]
}

func (w *walk) lay(t api.Type) {
	w.must(len(w.now.stack) < w.method.Stack)
	w.now.stack = append(w.now.stack, t)
}

func (w *walk) takeAs(asked api.Type) {
	w.must(w.fits(w.take(), asked))
}

// take has what lies deepest first, as the document's table does.
func take(asked ...api.Type) action {
	return func(w *walk, _ api.Instr) {
		w.takeAll(asked)
	}
}

func (w *walk) takeAll(asked []api.Type) {
	for _, t := range slices.Backward(asked) {
		w.takeAs(t)
	}
}

func takeKind(kinds ...int) action {
	return func(w *walk, _ api.Instr) {
		w.must(slices.Contains(kinds, w.take().Kind))
	}
}

func lay(t api.Type) action {
	return func(w *walk, _ api.Instr) {
		w.lay(t)
	}
}

func takeAny(w *walk, _ api.Instr) {
	w.take()
}

func takeIntoLocal(w *walk, in api.Instr) {
	w.now.locals[in.N] = w.take()
}

func layLocal(w *walk, in api.Instr) {
	t := w.now.locals[in.N]
	w.must(t.Kind != api.Top)
	w.lay(t)
}

func layAgain(w *walk, _ api.Instr) {
	w.lay(w.last())
}

func takeObject(w *walk, in api.Instr) {
	w.takeAs(object(in.Ref.Class))
}

func takeType(w *walk, in api.Instr) {
	w.takeAs(in.Ref.Type)
}

func takeParams(w *walk, in api.Instr) {
	w.takeAll(in.Ref.Params)
}

func takeObjectAndType(w *walk, in api.Instr) {
	takeType(w, in)
	takeObject(w, in)
}

func takeObjectAndParams(w *walk, in api.Instr) {
	takeParams(w, in)
	takeObject(w, in)
}

func takeNothingToGive(w *walk, _ api.Instr) {
	w.must(w.method.Result.Kind == api.Void)
}

func takeWhatIsGiven(w *walk, _ api.Instr) {
	w.must(w.method.Result.Kind != api.Void)
	w.takeAs(w.method.Result)
}

func layObject(w *walk, in api.Instr) {
	w.lay(object(in.Ref.Class))
}

// layType serves fields too, whose type is never Void.
func layType(w *walk, in api.Instr) {
	if in.Ref.Type.Kind != api.Void {
		w.lay(in.Ref.Type)
	}
}
