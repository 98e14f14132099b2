package shape

import "atrium/api"

// Operand is what an instruction has beside its operation.
type Operand int

const (
	Nothing  Operand = iota
	Number           // any number
	Local            // the number of a local
	Place            // the number of an instruction
	OfClass          // the name of a class
	OfField          // a class, a name, a type
	OfMethod         // a class, a name, parameters, what it gives
)

// lastOperation is the greatest of the operations' numbers.
const lastOperation = api.Size

// OperandOf answers for numbers that are no operation too (Nothing), so that
// bytes can be read ahead of being checked.
func OperandOf(operation int) Operand {
	switch operation {
	case api.Push:
		return Number
	case api.Load, api.Store:
		return Local
	case api.Goto, api.IfZero, api.IfLess, api.IfNull:
		return Place
	case api.New, api.Cast, api.Is:
		return OfClass
	case api.GetField, api.PutField, api.GetStatic, api.PutStatic:
		return OfField
	case api.Invoke, api.Call:
		return OfMethod
	}
	return Nothing
}
