package shape_test

import (
	"testing"

	"atrium/api"
	"atrium/shape"
)

// givenUp is what some work was given up with, or nil.
func givenUp(work func()) (with any) {
	defer func() { with = recover() }()
	work()
	return nil
}

func TestMust(t *testing.T) {
	if with := givenUp(func() { shape.Must(true) }); with != nil {
		t.Errorf("P3: given up on what holds: %v", with)
	}
	if with := givenUp(func() { shape.Must(false) }); with != api.ErrForm {
		t.Errorf("P3: what does not hold is given up on with %v", with)
	}
}

func TestMustBeClass(t *testing.T) {
	method := api.Method{Name: "m", Static: true, Code: []api.Instr{{Op: api.Return}}}
	for why, c := range map[string]struct {
		class api.Class
		want  any
	}{
		"the least class":   {api.Class{Name: "A", Super: "B"}, nil},
		"a method":          {api.Class{Name: "A", Super: "B", Methods: []api.Method{method}}, nil},
		"nothing":           {api.Class{}, api.ErrForm},
		"no Super":          {api.Class{Name: "A"}, api.ErrForm},
		"an empty method":   {api.Class{Name: "A", Super: "B", Methods: []api.Method{{}}}, api.ErrForm},
		"one method twice":  {api.Class{Name: "A", Super: "B", Methods: []api.Method{method, method}}, api.ErrForm},
		"an empty field":    {api.Class{Name: "A", Super: "B", Fields: []api.Field{{}}}, api.ErrForm},
		"a field of Void":   {api.Class{Name: "A", Super: "B", Fields: []api.Field{{Name: "f"}}}, api.ErrForm},
		"a name of 13":      {api.Class{Name: "abcdefghijklm", Super: "B"}, api.ErrForm},
		"a digit in front":  {api.Class{Name: "A", Super: "0"}, api.ErrForm},
		"a byte above 0x7f": {api.Class{Name: "A\xc3", Super: "B"}, api.ErrForm},
	} {
		if with := givenUp(func() { shape.MustBeClass(c.class) }); with != c.want {
			t.Errorf("P3: %s: given up with %v, want %v", why, with, c.want)
		}
	}
}

func TestOperandOf(t *testing.T) {
	want := map[int]shape.Operand{
		api.Push: shape.Number,
		api.Load: shape.Local, api.Store: shape.Local,
		api.Goto: shape.Place, api.IfZero: shape.Place, api.IfLess: shape.Place, api.IfNull: shape.Place,
		api.New: shape.OfClass, api.Cast: shape.OfClass, api.Is: shape.OfClass,
		api.GetField: shape.OfField, api.PutField: shape.OfField, api.GetStatic: shape.OfField, api.PutStatic: shape.OfField,
		api.Invoke: shape.OfMethod, api.Call: shape.OfMethod,
	}
	for op := -2; op < 300; op++ {
		if got := shape.OperandOf(op); got != want[op] {
			t.Errorf("P3: the operation %d has %d, want %d", op, got, want[op])
		}
	}
}

// TestHaveOneSignature: the name, the parameters and what it gives, nothing else.
func TestHaveOneSignature(t *testing.T) {
	number, row := api.Type{Kind: api.Int}, api.Type{Kind: api.Ints}
	m := api.Method{Name: "f", Params: []api.Type{number, row}, Result: row}
	for why, c := range map[string]struct {
		other api.Method
		want  bool
	}{
		"itself":               {m, true},
		"static":               {api.Method{Name: "f", Static: true, Params: []api.Type{number, row}, Result: row, Locals: 3, Stack: 4}, true},
		"another name":         {api.Method{Name: "F", Params: []api.Type{number, row}, Result: row}, false},
		"another result":       {api.Method{Name: "f", Params: []api.Type{number, row}, Result: number}, false},
		"nothing given":        {api.Method{Name: "f", Params: []api.Type{number, row}}, false},
		"fewer parameters":     {api.Method{Name: "f", Params: []api.Type{number}, Result: row}, false},
		"the other way round":  {api.Method{Name: "f", Params: []api.Type{row, number}, Result: row}, false},
		"an Object of a class": {api.Method{Name: "f", Params: []api.Type{number, {Kind: api.Object, Class: "A"}}, Result: row}, false},
	} {
		if shape.HaveOneSignature(m, c.other) != c.want || shape.HaveOneSignature(c.other, m) != c.want {
			t.Errorf("P7: %s: one signature: %t, want %t", why, !c.want, c.want)
		}
	}
}
