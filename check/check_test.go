package check_test

import (
	"slices"
	"testing"

	"atrium/api"
	"atrium/check"
)

// givenUp is what a class was given up on with, or nil.
func givenUp(c api.Class) (with any) {
	defer func() { with = recover() }()
	check.Class(c)
	return nil
}

func of(code ...api.Instr) api.Class {
	return api.Class{Name: "A", Super: "S", Methods: []api.Method{
		{Name: "f", Static: true, Code: []api.Instr{{Op: api.Return}}},
		{Name: "g", Static: true, Stack: 1, Result: api.Type{Kind: api.Object, Class: "C"}, Code: code},
	}}
}

func TestClass(t *testing.T) {
	c := of(api.Instr{Op: api.New, Ref: api.Ref{Class: "B"}}, api.Instr{Op: api.Give})
	if l := check.Class(c); !slices.Equal(l, []api.Below{{Class: "B", Above: "C"}}) {
		t.Errorf("P5: taken for granted: %v", l)
	}
}

// TestGivenUp: it is on purpose, and says where.
func TestGivenUp(t *testing.T) {
	for why, c := range map[string]struct {
		class api.Class
		want  any
	}{
		"right":           {of(api.Instr{Op: api.PushNull}, api.Instr{Op: api.Give}), nil},
		"nothing to give": {of(api.Instr{Op: api.Nop}, api.Instr{Op: api.Give}), check.Wrong{Method: 1, At: 1}},
		"the end":         {of(api.Instr{Op: api.Nop}), check.Wrong{Method: 1}},
		"no class":        {api.Class{Name: "A"}, api.ErrForm},
	} {
		if with := givenUp(c.class); with != c.want {
			t.Errorf("P5: %s: given up with %v, want %v", why, with, c.want)
		}
	}
}

// TestEveryOperationIsKnown: with nothing there each one is right or given up on
// on purpose; none is without a row in the table.
func TestEveryOperationIsKnown(t *testing.T) {
	null := api.Type{Kind: api.Null}
	for op := api.Nop; op <= api.Size; op++ {
		for depth := range 4 {
			in := api.Instr{Op: op}
			switch op {
			case api.New, api.Cast, api.Is:
				in.Ref = api.Ref{Class: "B"}
			case api.GetField, api.PutField, api.GetStatic, api.PutStatic, api.Invoke, api.Call:
				in.Ref = api.Ref{Class: "B", Name: "x", Type: api.Type{Kind: api.Int}}
			}
			c := of(api.Instr{Op: api.PushNull}, api.Instr{Op: api.Throw}, in)
			m := &c.Methods[1]
			m.Locals, m.Stack = 1, 3
			m.Frames = []api.Frame{{At: 2, Locals: []api.Type{null}, Stack: slices.Repeat([]api.Type{null}, depth)}}
			switch with := givenUp(c).(type) {
			case nil, check.Wrong:
			default:
				t.Errorf("P5: the operation %d is given up on with %v", op, with)
			}
		}
	}
}
