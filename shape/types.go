package shape

import "atrium/api"

func mustBeName(s string) {
	Must(0 < len(s) && len(s) <= api.MaxName)
	Must(isLetter(s[0]))
	for i := range len(s) {
		Must(isLetter(s[i]) || isDigit(s[i]))
	}
}

func isLetter(b byte) bool {
	return 'a' <= b && b <= 'z' || 'A' <= b && b <= 'Z'
}

func isDigit(b byte) bool {
	return '0' <= b && b <= '9'
}

// mustBeParams serves methods and the instructions that name them: the document
// bounds the parameters of a method, and a call can name no other.
func mustBeParams(params []api.Type) {
	Must(len(params) <= api.MaxParams)
	mustBeTypes(params, isOfValue)
}

func mustBeTypes(types []api.Type, mayBe func(kind int) bool) {
	for _, t := range types {
		mustBeType(t, mayBe)
	}
}

func mustBeType(t api.Type, mayBe func(kind int) bool) {
	Must(mayBe(t.Kind))
	if t.Kind == api.Object {
		mustBeName(t.Class)
		return
	}
	Must(t.Class == "")
}

func isOfValue(kind int) bool {
	return kind == api.Int || kind == api.Ints || kind == api.Object
}

func isOfResult(kind int) bool {
	return isOfValue(kind) || kind == api.Void
}

func isOfFrame(kind int) bool {
	return isOfValue(kind) || kind == api.Top || kind == api.Null
}
