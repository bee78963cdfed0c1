package verify

import "halyard/api"

// place is where a fault is: at an instruction of a function.
type place struct{ f, at int }

// fault is what a program is given up with.
type fault struct {
	place
	e api.Errno
}

// require gives up with the whole program, if a rule is broken.
func (p place) require(kept bool, e api.Errno) {
	if !kept {
		panic(fault{p, e})
	}
}

// firstFault: the first one of a program that is within the limits; the one without anything, if there is none.
func firstFault(p api.Prog) (first fault) {
	defer func() {
		if r := recover(); r != nil {
			first = r.(fault)
		}
	}()
	heads(p)
	for f := range p.Funcs {
		follow(p, f)
	}
	return fault{}
}
