package shape

import "atrium/api"

func mustBeCode(m api.Method) {
	Must(0 < len(m.Code) && len(m.Code) <= api.MaxCode)
	for _, in := range m.Code {
		Must(0 <= in.Op && in.Op <= lastOperation)
		mustHaveNumber(in, m)
		mustHaveRef(in)
	}
}

func mustHaveNumber(in api.Instr, m api.Method) {
	switch OperandOf(in.Op) {
	case Number:
	case Local:
		Must(0 <= in.N && in.N < m.Locals)
	case Place:
		Must(isPlace(in.N, m))
	default:
		Must(in.N == 0)
	}
}

func mustHaveRef(in api.Instr) {
	r := in.Ref
	switch OperandOf(in.Op) {
	case OfClass:
		mustBeName(r.Class)
		Must(r.Name == "" && len(r.Params) == 0 && r.Type == api.Type{})
	case OfField:
		mustBeName(r.Class)
		mustBeName(r.Name)
		Must(len(r.Params) == 0)
		mustBeType(r.Type, isOfValue)
	case OfMethod:
		mustBeName(r.Class)
		mustBeName(r.Name)
		mustBeParams(r.Params)
		mustBeType(r.Type, isOfResult)
	default:
		Must(r.Class == "" && r.Name == "" && len(r.Params) == 0 && r.Type == api.Type{})
	}
}
