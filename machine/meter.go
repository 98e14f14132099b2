package machine

// meter counts the instructions that are done.
type meter struct {
	fuel, done int
	out        chan struct{} // room for one: the meter waits for nobody
}

func newMeter(fuel int) *meter {
	g := &meter{fuel: fuel, out: make(chan struct{}, 1)}
	g.sendIfOut()
	return g
}

func (g *meter) count() {
	g.done++
	g.sendIfOut()
}

func (g *meter) sendIfOut() {
	if g.done == g.fuel {
		g.out <- struct{}{}
	}
}

// hasRunOut is asked ahead of each instruction. It says so once: with that the
// run is over.
func (g *meter) hasRunOut() bool {
	select {
	case <-g.out:
		return true
	default:
		return false
	}
}
