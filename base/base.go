// Package base has the classes that are there from the beginning.
package base

// Their names.
const (
	Object    = "Object"
	Throwable = "Throwable"
	Error     = "Error"
	NoClass   = "NoClass"
	BadForm   = "BadForm"
	Circular  = "Circular"
	BadClass  = "BadClass"
	NoField   = "NoField"
	NoMethod  = "NoMethod"
	BadInit   = "BadInit"
	Arith     = "Arith"
	NullRef   = "NullRef"
	BadCast   = "BadCast"
	Bounds    = "Bounds"
	BadSize   = "BadSize"
	Heap      = "Heap"
	Deep      = "Deep"
)

// Names answers all of them, each behind the one above it.
func Names() []string {
	return []string{
		Object, Throwable, Error,
		NoClass, BadForm, Circular, BadClass, NoField, NoMethod, BadInit,
		Arith, NullRef, BadCast, Bounds, BadSize, Heap, Deep,
	}
}

// Super answers the class above one that is there: "" above Object.
func Super(class string) (super string, there bool) {
	switch class {
	case Object:
		return "", true
	case Throwable:
		return Object, true
	case Error:
		return Throwable, true
	case NoClass, BadForm, Circular, BadClass, NoField, NoMethod, BadInit,
		Arith, NullRef, BadCast, Bounds, BadSize, Heap, Deep:
		return Error, true
	}
	return "", false
}

// IsThere tells whether a class is one of them.
func IsThere(class string) bool {
	_, there := Super(class)
	return there
}

// IsBelow tells whether a class that is there is another one, or stands below
// it. (They stand below no class but one another.)
func IsBelow(class, above string) bool {
	for at, there := class, IsThere(class); there && at != ""; at, there = Super(at) {
		if at == above {
			return true
		}
	}
	return false
}
