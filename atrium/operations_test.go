package atrium_test

import (
	"slices"
	"strconv"
	"testing"

	"atrium/api"
	"atrium/atrium"
)

// kind is something that lies on a stack.
type kind []api.Type

// Each one lists what fits it of the types that stacked answers.
var (
	ints    = kind{anInt}
	rows    = kind{aRow, null}
	likeB   = kind{aB, null}
	throws  = kind{aThrowable, null}
	bearers = kind{aB, anA, anObject, aThrowable, null}
	nullish = kind{aB, anA, anObject, aThrowable, aRow, null}
	all     = kind{aB, anA, anObject, aThrowable, aRow, null, anInt}
)

var (
	aB         = object("B")
	anObject   = object("Object")
	aThrowable = object("Throwable")
)

func object(class string) api.Type { return api.Type{Kind: api.Object, Class: class} }

// stacked: all that may lie on a stack, as far as nothing is taken for granted of it.
func stacked() []api.Type { return all }

func op(operation int) api.Instr { return api.Instr{Op: operation} }

func with(operation, n int) api.Instr { return api.Instr{Op: operation, N: n} }

func ofClass(operation int, class string) api.Instr {
	return api.Instr{Op: operation, Ref: api.Ref{Class: class}}
}

func ofField(operation int, class string, t api.Type) api.Instr {
	return api.Instr{Op: operation, Ref: api.Ref{Class: class, Name: "x", Type: t}}
}

func ofMethod(operation int, class string, result api.Type, params ...api.Type) api.Instr {
	return api.Instr{Op: operation, Ref: api.Ref{Class: class, Name: "f", Params: params, Type: result}}
}

// row: an operation, what it takes (the deepest first), what it lays.
type row struct {
	in     api.Instr
	takes  []kind
	lays   []api.Type
	ends   bool
	result api.Type // of the method
}

// theRows are those of the document's table that ask for types and lay them;
// Pop, Dup, Store and Load are tried on their own.
func theRows() []row {
	two, one := []kind{ints, ints}, []kind{ints}
	number, rowOfInts := []api.Type{anInt}, []api.Type{aRow}
	return []row{
		{in: op(api.Nop)},
		{in: with(api.Goto, 2), ends: true},
		{in: with(api.Push, -5), lays: number},
		{in: op(api.Read), lays: number},
		{in: op(api.Add), takes: two, lays: number},
		{in: op(api.Sub), takes: two, lays: number},
		{in: op(api.Mul), takes: two, lays: number},
		{in: op(api.Div), takes: two, lays: number},
		{in: with(api.IfZero, 2), takes: one},
		{in: with(api.IfLess, 2), takes: two},
		{in: with(api.IfNull, 2), takes: []kind{nullish}},
		{in: op(api.PushNull), lays: []api.Type{null}},
		{in: ofClass(api.New, "B"), lays: []api.Type{aB}},
		{in: ofField(api.GetField, "B", anInt), takes: []kind{likeB}, lays: number},
		{in: ofField(api.GetField, "B", anA), takes: []kind{likeB}, lays: []api.Type{anA}},
		{in: ofField(api.PutField, "B", anInt), takes: []kind{likeB, ints}},
		{in: ofField(api.PutField, "B", aRow), takes: []kind{likeB, rows}},
		{in: ofField(api.PutField, "Throwable", aB), takes: []kind{throws, likeB}},
		{in: ofField(api.GetStatic, "B", aRow), lays: rowOfInts},
		{in: ofField(api.PutStatic, "B", anInt), takes: one},
		{in: ofField(api.PutStatic, "B", aThrowable), takes: []kind{throws}},
		{in: ofField(api.PutStatic, "B", anObject), takes: []kind{bearers}},
		{in: ofMethod(api.Invoke, "B", void), takes: []kind{likeB}},
		{in: ofMethod(api.Invoke, "B", anA, anInt, aRow, aThrowable), takes: []kind{likeB, ints, rows, throws}, lays: []api.Type{anA}},
		{in: ofMethod(api.Invoke, "Object", aRow, anInt), takes: []kind{bearers, ints}, lays: rowOfInts},
		{in: ofMethod(api.Call, "B", void), takes: nil},
		{in: ofMethod(api.Call, "B", anInt), lays: number},
		{in: ofMethod(api.Call, "B", void, anInt, aRow), takes: []kind{ints, rows}},
		{in: ofMethod(api.Call, "B", aB, aRow, aB, anInt, anInt, anInt, aRow), takes: []kind{rows, likeB, ints, ints, ints, rows}, lays: []api.Type{aB}},
		{in: op(api.Return), ends: true},
		{in: op(api.Give), takes: one, ends: true, result: anInt},
		{in: op(api.Give), takes: []kind{rows}, ends: true, result: aRow},
		{in: op(api.Give), takes: []kind{likeB}, ends: true, result: aB},
		{in: op(api.Throw), takes: []kind{throws}, ends: true},
		{in: ofClass(api.Cast, "B"), takes: []kind{bearers}, lays: []api.Type{aB}},
		{in: ofClass(api.Is, "B"), takes: []kind{bearers}, lays: number},
		{in: op(api.Print), takes: one},
		{in: op(api.NewInts), takes: one, lays: rowOfInts},
		{in: op(api.Size), takes: []kind{rows}, lays: number},
		{in: op(api.GetAt), takes: []kind{rows, ints}, lays: number},
		{in: op(api.PutAt), takes: []kind{rows, ints, ints}},
	}
}

// between has the instruction at 1, with these stacks ahead of it and behind it;
// the locals are an Int and Top.
func between(r row, deep int, ahead, behind []api.Type) api.Class {
	return api.Class{Name: "A", Super: "Object", Methods: []api.Method{
		{Name: "first", Static: true, Code: []api.Instr{op(api.Return)}},
		{
			Name: "f", Static: true, Params: []api.Type{anInt}, Result: r.result, Locals: 2, Stack: deep,
			Code: []api.Instr{with(api.Goto, 0), r.in, with(api.Goto, 2)},
			Frames: []api.Frame{
				{At: 0, Locals: []api.Type{anInt, top}},
				{At: 1, Locals: []api.Type{anInt, top}, Stack: ahead},
				{At: 2, Locals: []api.Type{anInt, top}, Stack: behind},
			},
		},
	}}
}

// needed: on top of what lies below, what the row takes.
func (r row) needed(below ...api.Type) []api.Type {
	l := slices.Clone(below)
	for _, k := range r.takes {
		l = append(l, k[0])
	}
	return l
}

func (r row) left(below ...api.Type) []api.Type { return append(slices.Clone(below), r.lays...) }

func (r row) text() string { return "operation " + strconv.Itoa(r.in.Op) }

func TestOperationsTake(t *testing.T) {
	for _, r := range theRows() {
		for _, below := range [][]api.Type{nil, {anInt}, {aRow, null, aB, anA}} {
			sound(t, r.text(), between(r, api.MaxStack, r.needed(below...), r.left(below...)))
		}
		for i, k := range r.takes {
			ahead := r.needed(aRow)
			unsound(t, r.text()+" with too few", between(r, api.MaxStack, r.needed()[1:], r.left()), 1, 1)
			for _, other := range stacked() {
				ahead[1+i] = other
				c := between(r, api.MaxStack, ahead, r.left(aRow))
				switch {
				case slices.Contains(k, other):
					sound(t, r.text()+" with "+typeText(other), c)
				case !mayBeBelow(other, k):
					unsound(t, r.text()+" with "+typeText(other), c, 1, 1)
				}
			}
		}
	}
}

// mayBeBelow: this is taken for granted, and not tried here.
func mayBeBelow(t api.Type, k kind) bool {
	return t.Kind == api.Object && t.Class == "A" && k[0].Kind == api.Object ||
		t == aB && k[0] == aThrowable
}

func TestOperationsLay(t *testing.T) {
	for _, r := range theRows() {
		if r.ends {
			sound(t, r.text()+" does not go on", between(r, api.MaxStack, r.needed(), behindEnd(r)))
			continue
		}
		at := 2
		if r.in.N == 2 { // it goes there too, and is the first to be wrong
			at = 1
		}
		unsound(t, r.text()+" leaves too much", between(r, api.MaxStack, r.needed(anInt), r.left()), 1, at)
		unsound(t, r.text()+" leaves too little", between(r, api.MaxStack, r.needed(), r.left(anInt)), 1, at)
		for i := range r.lays {
			behind := r.left()
			behind[i] = aRow
			if r.lays[i] == aRow {
				behind[i] = anInt
			}
			if r.lays[i] != null {
				unsound(t, r.text()+" leaves another", between(r, api.MaxStack, r.needed(), behind), 1, at)
			}
		}
	}
}

// behindEnd is what a state behind the row would not fit; only Goto goes there.
func behindEnd(r row) []api.Type {
	if r.in.Op == api.Goto {
		return r.left()
	}
	return r.left(aRow, aRow, aRow)
}

func TestOperationsDepth(t *testing.T) {
	below := []api.Type{aRow, aRow}
	for _, r := range theRows() {
		ahead, behind := r.needed(below...), r.left(below...)
		deep := max(len(ahead), len(behind))
		sound(t, r.text()+" with just enough room", between(r, deep, ahead, behind))
		if len(behind) > len(ahead) {
			unsound(t, r.text()+" with too little room", between(r, deep-1, ahead, below), 1, 1)
		}
	}
}

func TestPopDupStoreLoad(t *testing.T) {
	deep := 2
	for _, it := range stacked() {
		one := []api.Type{it}
		sound(t, "Pop", between(row{in: op(api.Pop)}, deep, one, nil))
		sound(t, "Pop of the last", between(row{in: op(api.Pop)}, deep, []api.Type{aRow, it}, []api.Type{aRow}))
		sound(t, "Dup", between(row{in: op(api.Dup)}, deep, one, []api.Type{it, it}))
		unsound(t, "Dup leaves two", between(row{in: op(api.Dup)}, deep, one, one), 1, 2)
		unsound(t, "Dup without room", between(row{in: op(api.Dup)}, deep, []api.Type{it, it}, nil), 1, 1)

		stored := between(row{in: with(api.Store, 1)}, deep, []api.Type{aRow, it}, []api.Type{aRow})
		stored.Methods[1].Frames[2].Locals[1] = it
		sound(t, "Store", stored)
		stored = between(row{in: with(api.Store, 0)}, deep, one, nil)
		stored.Methods[1].Frames[2].Locals[0] = it
		sound(t, "Store over another", stored)
		stored.Methods[1].Frames[2].Locals[0] = anInt
		if it != anInt {
			unsound(t, "Store over another", stored, 1, 2)
		}

		loaded := between(row{in: with(api.Load, 1)}, deep, []api.Type{aRow}, []api.Type{aRow, it})
		loaded.Methods[1].Frames[1].Locals[1] = it
		loaded.Methods[1].Frames[2].Locals[1] = it
		sound(t, "Load", loaded)
		unsound(t, "Load of Top", between(row{in: with(api.Load, 1)}, deep, nil, one), 1, 1)
		loaded.Methods[1].Stack, loaded.Methods[1].Frames[2].Stack = 1, one
		unsound(t, "Load without room", loaded, 1, 1)
	}
	for _, in := range []api.Instr{op(api.Pop), op(api.Dup), with(api.Store, 1)} {
		unsound(t, "nothing is there", between(row{in: in}, deep, nil, nil), 1, 1)
	}
}

func TestReturnAndGive(t *testing.T) {
	for _, result := range []api.Type{anInt, aRow, anA} {
		for _, ahead := range [][]api.Type{nil, {result}} {
			unsound(t, "Return of something", between(row{in: op(api.Return), result: result}, 3, ahead, nil), 1, 1)
		}
		unsound(t, "Give where nothing is given", between(row{in: op(api.Give)}, 3, []api.Type{result}, nil), 1, 1)
	}
	unsound(t, "Give of nothing", between(row{in: op(api.Give)}, 3, nil, nil), 1, 1)
}

// sound asks that Check finds nothing wrong, and takes for granted just that.
func sound(t *testing.T, why string, c api.Class, granted ...api.Below) {
	t.Helper()
	l, method, at, e := atrium.Check(c)
	if !slices.Equal(l, granted) || method != 0 || at != 0 || e != api.OK {
		t.Errorf("P5: %s: Check = %v, %d, %d, %d, want %v", why, l, method, at, e, granted)
	}
}

func unsound(t *testing.T, why string, c api.Class, wantMethod, wantAt int) {
	t.Helper()
	l, method, at, e := atrium.Check(c)
	if len(l) != 0 || method != wantMethod || at != wantAt || e != api.ErrCheck {
		t.Errorf("P5: %s: Check = %v, %d, %d, %d, want the method %d, the instruction %d", why, l, method, at, e, wantMethod, wantAt)
	}
}
