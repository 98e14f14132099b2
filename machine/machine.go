// Package machine runs scripts: each class is had, checked and started when it
// is needed first.
package machine

import (
	"strings"

	"atrium/api"
	"atrium/base"
)

// Calls are those of the face that a run needs: bytes and methods that are given
// up on deep inside are caught there, and nowhere else.
type Calls struct {
	Decode func(s string) (api.Class, api.Errno)
	Check  func(c api.Class) ([]api.Below, int, int, api.Errno)
}

// machine is a run.
type machine struct {
	script   api.Script
	calls    Calls
	table    []operation
	names    map[string]target // what the names of classes came to that were asked for
	granted  []api.Below       // taken for granted of classes that were not there
	under    []*frame          // the methods that are under way, the uppermost last
	meter    *meter
	heap     int // what is left of it
	inputs   int // how many were read
	events   []api.Event
	uncaught *object
}

// IsScript tells whether a script keeps to its bounds.
func IsScript(s api.Script) bool {
	return len(s.Entries) <= api.MaxEntries &&
		0 <= s.Fuel && s.Fuel <= api.MaxFuel &&
		0 <= s.Heap && s.Heap <= api.MaxHeap &&
		1 <= s.Depth && s.Depth <= api.MaxDepth
}

// Run does a script that keeps to its bounds.
func Run(s api.Script, calls Calls) api.Result {
	m := &machine{
		script: s,
		calls:  calls,
		table:  operations(),
		names:  map[string]target{},
		meter:  newMeter(s.Fuel),
		heap:   s.Heap,
	}
	m.haveBase()
	// The name comes out in events, and must not keep what was handed in.
	outcome, class := m.run(strings.Clone(s.Main))
	return api.Result{Outcome: outcome, Class: class, Events: m.events, Done: m.meter.done}
}

func (m *machine) tell(kind int, class string) {
	m.events = append(m.events, api.Event{Kind: kind, Class: class})
}

func (m *machine) run(name string) (outcome int, class string) {
	switch main := m.mainOf(name).(type) {
	case wrong:
		outcome, class = api.Unusable, main.why
	case foundMethod:
		outcome, class = m.startAndDo(main)
	}
	return outcome, class
}

// mainOf answers a method, or what is wrong.
func (m *machine) mainOf(name string) target {
	had := m.have(name)
	switch to := had.(type) {
	case foundClass:
		if main := to.class.plainMethod("main"); main != nil {
			return foundMethod{to.class, main}
		}
		return wrong{base.NoMethod}
	}
	return had
}

func (m *machine) startAndDo(main foundMethod) (outcome int, class string) {
	for ready := false; !ready; {
		var thrown *object
		if thrown, ready = m.start(main.class); thrown != nil {
			return api.Uncaught, thrown.class.name
		}
		if outcome, class = m.finish(); outcome != api.Halted {
			return outcome, class
		}
	}
	m.begin(main.method, nil)
	return m.finish()
}

// finish does all that is under way.
func (m *machine) finish() (outcome int, class string) {
	for len(m.under) > 0 {
		if m.meter.hasRunOut() {
			return api.Spent, ""
		}
		m.step()
	}
	if m.uncaught != nil {
		return api.Uncaught, m.uncaught.class.name
	}
	return api.Halted, ""
}
