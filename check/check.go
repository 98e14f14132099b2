// Package check goes through the methods of a class ahead of their being done,
// so that none of them does with a value what this cannot bear.
//
// A method that may go wrong is given up on by a panic with Wrong; what is no
// class at all as package shape does it.
package check

import (
	"cmp"
	"maps"
	"slices"
	"strings"

	"atrium/api"
	"atrium/shape"
)

// Wrong says where a class is wrong: the number of the method and that of its
// instruction.
type Wrong struct {
	Method, At int
}

// Class gives up unless each method of c can be done. It answers what was taken
// for granted, each once, in order.
func Class(c api.Class) []api.Below {
	shape.MustBeClass(c)
	granted := map[api.Below]struct{}{}
	table := operations()
	for i, m := range c.Methods {
		w := walk{class: c, granted: granted, number: i, method: m}
		w.goThrough(table)
	}
	return inOrder(granted)
}

// inOrder copies the names, so that the answer does not keep what they were
// handed in with.
func inOrder(granted map[api.Below]struct{}) []api.Below {
	all := slices.SortedFunc(maps.Keys(granted), func(a, b api.Below) int {
		return cmp.Or(cmp.Compare(a.Class, b.Class), cmp.Compare(a.Above, b.Above))
	})
	for i, b := range all {
		all[i] = api.Below{Class: strings.Clone(b.Class), Above: strings.Clone(b.Above)}
	}
	return all
}
